import PyProof.Rows.All
import Wide.All
import OpenK.AllK
import Wide.FinOn
import HandS.ForMost
import HandS.Deep
import HandS.TupAny
import HandS.Style
import HandS.Flow
import HandS.Conv
import HandS.Wide
import HandS.IsInst
import HandS.Defaults
import HandS.HeadHook1
import HandS.HeadHook2
import HandS.Small
import HandS.SortInts
import HandS.RaiseMore
import HandS.Text
import KE.GoesNew
import KE.SortData
import HandS.DictTup
import KE.KDictCopyH
import KE.KDictSum
import KE.DataFind
import KE.KStateDown
import HandS.Ends
import HandS.More
import HandS.Words
import HandS.WordsExc
import HandS.Head0
import HandS.Head1
import HandS.Head2
import HandS.HeadEnd
import PySem.Challenge.RW_strangeseats_k08_frames_all
section
set_option Elab.async false
set_option linter.all false
set_option maxRecDepth 100000
/-! The value layer: Python's data as plain trees, variables that own what they change. -/
namespace VL
open PySem PySem.Spec L2

/-- data that nobody changes any more -/
inductive P where
  | any | non | bl (b : Bool) | int (i : Int) | str (x : Str)
  | tup (b : Bool) (l : List P) | lst (l : List P) | scr (l : List Int)
  | dK (ks : List Key) (l : List P) | dT (ks : List (List Key)) (l : List P)
  | obj (c : Str) (fs : List Str) (l : List P)

/-- what a variable holds: data, or a list, dict, object that it alone holds -/
inductive D where
  | imm (p : P) | lst (l : List P)
  | dK (ks : List Key) (l : List P) | dT (ks : List (List Key)) (l : List P)
  | obj (c : Str) (fs : List Str) (l : List D)

abbrev En := List (Option D)

mutual
def D.p : D → P
  | .imm p => p
  | .lst l => .lst l
  | .dK ks l => .dK ks l
  | .dT ks l => .dT ks l
  | .obj c fs l => .obj c fs (D.ps l)
def D.ps : List D → List P
  | [] => []
  | d :: l => d.p :: D.ps l
end

/-- a tuple; raw: one of the heap itself -/
def TpOk (K : PySem.W.Frag) (Z : Hp) (b : Bool) (a : Addr) (vs : List V) : Prop := SqT K Z a vs ∧ (b = true → Z a = some (.tup vs))
section
variable (K : PySem.W.Frag) (Z : Hp)
mutual
/-- the value stands for the data, all of it in the part of the heap that never changes -/
def Rp : P → V → Prop
  | .any, _ => True
  | .non, v => v = .non
  | .bl b, v => v = .bl b
  | .int i, v => v = .int i
  | .str x, v => v = .str x
  | .tup b l, v => ∃ a vs, v = .ref a ∧ TpOk K Z b a vs ∧ Rps l vs
  | .lst l, v => ∃ a vs, v = .ref a ∧ Z a = some (.lst vs) ∧ Rps l vs
  | .scr l, v => ∃ a, v = .ref a ∧ SqL K Z a (l.map V.int)
  | .dK ks l, v => ∃ a kvs, v = .ref a ∧ Rd Z a (.dK kvs) ∧ kvs.map (·.1) = ks ∧ Rps l (kvs.map (·.2))
  | .dT ks l, v => ∃ a kvs, v = .ref a ∧ Rd Z a (.dT kvs) ∧ kvs.map (·.1) = ks ∧ Rps l (kvs.map (·.2))
  | .obj c fs l, v => ∃ a dx vfs, v = .ref a ∧ Z a = some (.ins (He.ga K c) dx vfs) ∧ vfs.map (·.1) = fs ∧ Rps l (vfs.map (·.2))
def Rps : List P → List V → Prop
  | [], vs => vs = []
  | p :: l, vs => ∃ v r, vs = v :: r ∧ Rp p v ∧ Rps l r
end
variable (H : Hp)
mutual
/-- the value reads so by now -/
def Rr : P → V → Prop
  | .any, _ => True
  | .lst l, v => ∃ a vs, v = .ref a ∧ H a = some (.lst vs) ∧ Rps K Z l vs
  | .scr l, v => ∃ a, v = .ref a ∧ SqL K Z a (l.map V.int)
  | .dK ks l, v => ∃ a kvs, v = .ref a ∧ Rd H a (.dK kvs) ∧ kvs.map (·.1) = ks ∧ Rps K Z l (kvs.map (·.2))
  | .dT ks l, v => ∃ a kvs, v = .ref a ∧ Rd H a (.dT kvs) ∧ kvs.map (·.1) = ks ∧ Rps K Z l (kvs.map (·.2))
  | .obj c fs l, v => ∃ a dx vfs, v = .ref a ∧ H a = some (.ins (He.ga K c) dx vfs) ∧ vfs.map (·.1) = fs ∧ Rrs l (vfs.map (·.2))
  | .non, v => v = .non
  | .bl b, v => v = .bl b
  | .int i, v => v = .int i
  | .str x, v => v = .str x
  | .tup b l, v => ∃ a vs, v = .ref a ∧ TpOk K Z b a vs ∧ Rps K Z l vs
def Rrs : List P → List V → Prop
  | [], vs => vs = []
  | p :: l, vs => ∃ v r, vs = v :: r ∧ Rr p v ∧ Rrs l r
end
mutual
/-- .. with what it alone holds -/
def RD : D → V → List Addr → Prop
  | .imm p, v, A => Rp K Z p v ∧ A = []
  | .lst l, v, A => ∃ a vs, v = .ref a ∧ A = [a] ∧ H a = some (.lst vs) ∧ Rps K Z l vs
  | .dK ks l, v, A => ∃ a kvs, v = .ref a ∧ A = [a] ∧ H a = some (.dK kvs) ∧ kvs.map (·.1) = ks ∧ Rps K Z l (kvs.map (·.2))
  | .dT ks l, v, A => ∃ a kvs, v = .ref a ∧ A = [a] ∧ H a = some (.dT kvs) ∧ kvs.map (·.1) = ks ∧ Rps K Z l (kvs.map (·.2))
  | .obj c fs l, v, A => ∃ a dx vfs B, v = .ref a ∧ A = a :: B ∧ H a = some (.ins (He.ga K c) dx vfs) ∧ vfs.map (·.1) = fs ∧ RDs l (vfs.map (·.2)) B
def RDs : List D → List V → List Addr → Prop
  | [], vs, A => vs = [] ∧ A = []
  | d :: l, vs, A => ∃ v r F B, vs = v :: r ∧ A = F ++ B ∧ RD d v F ∧ RDs l r B
end
/-- a def's variables -/
def Re : En → St → List Addr → Prop
  | [], σ, A => σ = [] ∧ A = []
  | none :: e, σ, A => ∃ o r, σ = o :: r ∧ Re e r A
  | some d :: e, σ, A => ∃ v r F B, σ = some v :: r ∧ A = F ++ B ∧ RD K Z H d v F ∧ Re e r B
end

/-! ### two heaps -/
/-- free, or a tuple (which nobody changes) -/
def NewA (H : Hp) (a : Addr) : Prop := H a = none ∨ ∃ vs, H a = some (.tup vs)
/-- things were only added -/
structure Ex (Z H Z' H' : Hp) : Prop where
  z : Same Z Z'
  h : Same H H'
  zh : Same Z' H'
  new : ∀ a o, Z' a = some o → Z a = some o ∨ NewA H a
/-- what A alone holds may have changed -/
structure Stp (A : List Addr) (Z H Z' H' : Hp) : Prop where
  z : Same Z Z'
  zh : Same Z' H'
  keep : ∀ a o, H a = some o → a ∉ A → H' a = some o
  new : ∀ a o, Z' a = some o → Z a = some o ∨ a ∈ A ∨ NewA H a
def Sub (A : List Addr) (H : Hp) (F : List Addr) : Prop := ∀ a ∈ F, a ∈ A ∨ H a = none

section
variable {K : PySem.W.Frag} {Z Z' Z1 Z2 H H' H1 H2 : Hp} {A A1 B F : List Addr}
theorem Ex.refl (h : Same Z H) : Ex Z H Z H := ⟨.refl _, .refl _, h, fun _ _ e => .inl e⟩
theorem Ex.trans (a : Ex Z H Z1 H1) (b : Ex Z1 H1 Z2 H2) : Ex Z H Z2 H2 := ⟨a.z.trans b.z, a.h.trans b.h, b.zh, fun x o e => by
  rcases b.new x o e with q | q | ⟨vs, q⟩
  · exact a.new x o q
  · exact .inr (.inl (a.h.free q))
  · cases e0 : H x with
    | none => exact .inr (.inl e0)
    | some u =>
      have z := a.h x u e0
      rw [q] at z
      cases z
      exact .inr (.inr ⟨vs, e0⟩)⟩
/-- a new object that nobody changes -/
theorem Ex.lay (h : Same Z H) {p : Addr} {o : HO} (hp : H p = none) : Ex Z H (upd Z p o) (upd H p o) := by
  refine ⟨fun b u e => ?_, fun b u e => ?_, fun b u e => ?_, fun b u e => ?_⟩
  · rw [upd_ne (ne_of_none (h _ _ e) hp)]; exact e
  · rw [upd_ne (ne_of_none e hp)]; exact e
  · by_cases q : b = p
    · subst q; rw [upd_same] at e ⊢; exact e
    · rw [upd_ne q] at e ⊢; exact h _ _ e
  · by_cases q : b = p
    · subst q; exact .inr (.inl hp)
    · rw [upd_ne q] at e; exact .inl e
/-- a new object -/
theorem Ex.own (h : Same Z H) {p : Addr} {o : HO} (hp : H p = none) : Ex Z H Z (upd H p o) :=
  ⟨.refl _, fun b u e => by rw [upd_ne (ne_of_none e hp)]; exact e, fun b u e => by rw [upd_ne (ne_of_none (h _ _ e) hp)]; exact h _ _ e, fun _ _ e => .inl e⟩
theorem Ex.stp (a : Ex Z H Z' H') : Stp A Z H Z' H' := ⟨a.z, a.zh, fun x o e _ => a.h x o e, fun x o e => (a.new x o e).elim .inl fun q => .inr (.inr q)⟩
theorem Stp.trans (a : Stp A Z H Z1 H1) (s : Sub A H A1) (b : Stp A1 Z1 H1 Z2 H2) : Stp A Z H Z2 H2 := by
  have nA : ∀ x o, H x = some o → x ∉ A → x ∉ A1 := fun x o e n q => by
    rcases s x q with q | q
    · exact n q
    · rw [e] at q; cases q
  refine ⟨a.z.trans b.z, b.zh, fun x o e n => b.keep x o (a.keep x o e n) (nA x o e n), fun x o e => ?_⟩
  rcases b.new x o e with q | q | q
  · exact a.new x o q
  · exact (s x q).elim (fun z => .inr (.inl z)) fun z => .inr (.inr (.inl z))
  · cases e0 : H x with
    | none => exact .inr (.inr (.inl e0))
    | some u =>
      by_cases n : x ∈ A
      · exact .inr (.inl n)
      · rcases q with q | ⟨vs, q⟩
        · rw [a.keep x u e0 n] at q; cases q
        · have z := a.keep x u e0 n
          rw [q] at z
          cases z
          exact .inr (.inr (.inr ⟨vs, e0⟩))
theorem Sub.refl : Sub A H A := fun _ h => .inl h
theorem Stp.nn (a : Stp A Z H Z1 H1) {x : Addr} (h : H1 x = none) : x ∈ A ∨ H x = none := by
  cases e0 : H x with
  | none => exact .inr rfl
  | some u =>
    by_cases n : x ∈ A
    · exact .inl n
    · rw [a.keep x u e0 n] at h; cases h
theorem Sub.trans (a : Stp A Z H Z1 H1) (s : Sub A H A1) (b : Sub A1 H1 F) : Sub A H F := fun x hx => by
  rcases b x hx with q | q
  · exact s x q
  · exact a.nn q
theorem Ex.sub (a : Ex Z H Z1 H1) (b : Sub A H1 F) : Sub A H F := fun x hx => (b x hx).elim .inl fun q => .inr (a.h.free q)
theorem Same.seqT {a : Addr} {xs : List V} (e : Same H H') (h : SqT K H a xs) : SqT K H' a xs := by
  rcases h with (h | ⟨o, h⟩) | h
  · exact .inl (.inl (e _ _ h))
  · exact .inl (.inr ⟨o, e _ _ h⟩)
  · exact .inr h
theorem Same.rd {a : Addr} {u : HO} (e : Same H H') (h : Rd H a u) : Rd H' a u := by
  rcases h with h | ⟨o, h⟩
  · exact .inl (e _ _ h)
  · exact .inr ⟨o, e _ _ h⟩
theorem TpOk.mono {b : Bool} {a : Addr} {vs : List V} (e : Same Z Z') (h : TpOk K Z b a vs) : TpOk K Z' b a vs := ⟨Same.seqT e h.1, fun q => e _ _ (h.2 q)⟩
theorem TpOk.of {b : Bool} {a : Addr} {vs : List V} (h : Z a = some (.tup vs)) : TpOk K Z b a vs := ⟨SqT.of h, fun _ => h⟩
mutual
theorem Rp.mono (e : Same Z Z') : ∀ (p : P) (v : V), Rp K Z p v → Rp K Z' p v
  | .any, _, h => h
  | .non, _, h => h
  | .bl _, _, h => h
  | .int _, _, h => h
  | .str _, _, h => h
  | .tup b l, _, ⟨a, vs, h1, h2, h3⟩ => ⟨a, vs, h1, h2.mono e, Rps.mono e l vs h3⟩
  | .lst l, _, ⟨a, vs, h1, h2, h3⟩ => ⟨a, vs, h1, e _ _ h2, Rps.mono e l vs h3⟩
  | .scr _, _, ⟨a, h1, h2⟩ => ⟨a, h1, Same.seq e h2⟩
  | .dK _ l, _, ⟨a, vs, h1, h2, h3, h4⟩ => ⟨a, vs, h1, Same.rd e h2, h3, Rps.mono e l _ h4⟩
  | .dT _ l, _, ⟨a, vs, h1, h2, h3, h4⟩ => ⟨a, vs, h1, Same.rd e h2, h3, Rps.mono e l _ h4⟩
  | .obj _ _ l, _, ⟨a, dx, vs, h1, h2, h3, h4⟩ => ⟨a, dx, vs, h1, e _ _ h2, h3, Rps.mono e l _ h4⟩
theorem Rps.mono (e : Same Z Z') : ∀ (l : List P) (vs : List V), Rps K Z l vs → Rps K Z' l vs
  | [], _, h => h
  | p :: l, _, ⟨v, r, h1, h2, h3⟩ => ⟨v, r, h1, Rp.mono e p v h2, Rps.mono e l r h3⟩
end
mutual
theorem Rp.rr (e : Same Z H) : ∀ (p : P) (v : V), Rp K Z p v → Rr K Z H p v
  | .any, _, h => h
  | .non, _, h => h
  | .bl _, _, h => h
  | .int _, _, h => h
  | .str _, _, h => h
  | .tup b l, _, h => h
  | .lst l, _, ⟨a, vs, h1, h2, h3⟩ => ⟨a, vs, h1, e _ _ h2, h3⟩
  | .scr _, _, h => h
  | .dK _ l, _, ⟨a, vs, h1, h2, h3, h4⟩ => ⟨a, vs, h1, Same.rd e h2, h3, h4⟩
  | .dT _ l, _, ⟨a, vs, h1, h2, h3, h4⟩ => ⟨a, vs, h1, Same.rd e h2, h3, h4⟩
  | .obj _ _ l, _, ⟨a, dx, vs, h1, h2, h3, h4⟩ => ⟨a, dx, vs, h1, e _ _ h2, h3, Rps.rr e l _ h4⟩
theorem Rps.rr (e : Same Z H) : ∀ (l : List P) (vs : List V), Rps K Z l vs → Rrs K Z H l vs
  | [], _, h => h
  | p :: l, _, ⟨v, r, h1, h2, h3⟩ => ⟨v, r, h1, Rp.rr e p v h2, Rps.rr e l r h3⟩
end
mutual
theorem Rr.mono (z : Same Z Z') (e : Same H H') : ∀ (p : P) (v : V), Rr K Z H p v → Rr K Z' H' p v
  | .any, _, h => h
  | .non, _, h => h
  | .bl _, _, h => h
  | .int _, _, h => h
  | .str _, _, h => h
  | .tup b l, _, ⟨a, vs, h1, h2, h3⟩ => ⟨a, vs, h1, h2.mono z, Rps.mono z l vs h3⟩
  | .lst l, _, ⟨a, vs, h1, h2, h3⟩ => ⟨a, vs, h1, e _ _ h2, Rps.mono z l vs h3⟩
  | .scr _, _, ⟨a, h1, h2⟩ => ⟨a, h1, Same.seq z h2⟩
  | .dK _ l, _, ⟨a, vs, h1, h2, h3, h4⟩ => ⟨a, vs, h1, Same.rd e h2, h3, Rps.mono z l _ h4⟩
  | .dT _ l, _, ⟨a, vs, h1, h2, h3, h4⟩ => ⟨a, vs, h1, Same.rd e h2, h3, Rps.mono z l _ h4⟩
  | .obj _ _ l, _, ⟨a, dx, vs, h1, h2, h3, h4⟩ => ⟨a, dx, vs, h1, e _ _ h2, h3, Rrs.mono z e l _ h4⟩
theorem Rrs.mono (z : Same Z Z') (e : Same H H') : ∀ (l : List P) (vs : List V), Rrs K Z H l vs → Rrs K Z' H' l vs
  | [], _, h => h
  | p :: l, _, ⟨v, r, h1, h2, h3⟩ => ⟨v, r, h1, Rr.mono z e p v h2, Rrs.mono z e l r h3⟩
end
mutual
/-- what is alone held stays where A is kept -/
theorem RD.mono (z : Same Z Z') : ∀ (d : D) (v : V) (A : List Addr), (∀ a ∈ A, ∀ o, H a = some o → H' a = some o) → RD K Z H d v A → RD K Z' H' d v A
  | .imm p, _, _, _, ⟨h1, h2⟩ => ⟨Rp.mono z p _ h1, h2⟩
  | .lst l, _, _, k, ⟨a, vs, h1, h2, h3, h4⟩ => ⟨a, vs, h1, h2, k a (by rw [h2]; exact List.mem_cons_self) _ h3, Rps.mono z l vs h4⟩
  | .dK _ l, _, _, k, ⟨a, vs, h1, h2, h3, h4, h5⟩ => ⟨a, vs, h1, h2, k a (by rw [h2]; exact List.mem_cons_self) _ h3, h4, Rps.mono z l _ h5⟩
  | .dT _ l, _, _, k, ⟨a, vs, h1, h2, h3, h4, h5⟩ => ⟨a, vs, h1, h2, k a (by rw [h2]; exact List.mem_cons_self) _ h3, h4, Rps.mono z l _ h5⟩
  | .obj _ _ l, _, _, k, ⟨a, dx, vs, B, h1, h2, h3, h4, h5⟩ => ⟨a, dx, vs, B, h1, h2, k a (by rw [h2]; exact List.mem_cons_self) _ h3, h4, RDs.mono z l _ B (fun b hb => k b (by rw [h2]; exact List.mem_cons_of_mem _ hb)) h5⟩
theorem RDs.mono (z : Same Z Z') : ∀ (l : List D) (vs : List V) (A : List Addr), (∀ a ∈ A, ∀ o, H a = some o → H' a = some o) → RDs K Z H l vs A → RDs K Z' H' l vs A
  | [], _, _, _, h => h
  | d :: l, _, _, k, ⟨v, r, F, B, h1, h2, h3, h4⟩ => ⟨v, r, F, B, h1, h2, RD.mono z d v F (fun b hb => k b (by rw [h2]; exact List.mem_append_left _ hb)) h3, RDs.mono z l r B (fun b hb => k b (by rw [h2]; exact List.mem_append_right _ hb)) h4⟩
end
theorem Re.mono (z : Same Z Z') : ∀ (e : En) (σ : St) (A : List Addr), (∀ a ∈ A, ∀ o, H a = some o → H' a = some o) → Re K Z H e σ A → Re K Z' H' e σ A
  | [], _, _, _, h => h
  | none :: e, _, _, k, ⟨o, r, h1, h2⟩ => ⟨o, r, h1, Re.mono z e r _ k h2⟩
  | some d :: e, _, _, k, ⟨v, r, F, B, h1, h2, h3, h4⟩ => ⟨v, r, F, B, h1, h2, RD.mono z d v F (fun b hb => k b (by rw [h2]; exact List.mem_append_left _ hb)) h3, Re.mono z e r B (fun b hb => k b (by rw [h2]; exact List.mem_append_right _ hb)) h4⟩
mutual
theorem RD.rr (e : Same Z H) : ∀ (d : D) (v : V) (A : List Addr), RD K Z H d v A → Rr K Z H d.p v
  | .imm p, _, _, ⟨h1, _⟩ => Rp.rr e p _ h1
  | .lst l, _, _, ⟨a, vs, h1, _, h3, h4⟩ => ⟨a, vs, h1, h3, h4⟩
  | .dK _ l, _, _, ⟨a, vs, h1, _, h3, h4, h5⟩ => ⟨a, vs, h1, Rd.of h3, h4, h5⟩
  | .dT _ l, _, _, ⟨a, vs, h1, _, h3, h4, h5⟩ => ⟨a, vs, h1, Rd.of h3, h4, h5⟩
  | .obj _ _ l, _, _, ⟨a, dx, vs, B, h1, _, h3, h4, h5⟩ => ⟨a, dx, vs, h1, h3, h4, RDs.rr e l _ B h5⟩
theorem RDs.rr (e : Same Z H) : ∀ (l : List D) (vs : List V) (A : List Addr), RDs K Z H l vs A → Rrs K Z H (D.ps l) vs
  | [], _, _, h => h.1
  | d :: l, _, _, ⟨v, r, F, B, h1, _, h3, h4⟩ => ⟨v, r, h1, RD.rr e d v F h3, RDs.rr e l r B h4⟩
end
mutual
/-- what is alone held stands in the heap -/
theorem RD.there : ∀ (d : D) (v : V) (A : List Addr), RD K Z H d v A → ∀ a ∈ A, ∃ o, H a = some o
  | .imm _, _, _, ⟨_, h2⟩, a, ha => by rw [h2] at ha; cases ha
  | .lst _, _, _, ⟨b, vs, _, h2, h3, _⟩, a, ha => by rw [h2] at ha; rw [List.mem_singleton.mp ha]; exact ⟨_, h3⟩
  | .dK _ _, _, _, ⟨b, vs, _, h2, h3, _⟩, a, ha => by rw [h2] at ha; rw [List.mem_singleton.mp ha]; exact ⟨_, h3⟩
  | .dT _ _, _, _, ⟨b, vs, _, h2, h3, _⟩, a, ha => by rw [h2] at ha; rw [List.mem_singleton.mp ha]; exact ⟨_, h3⟩
  | .obj _ _ l, _, _, ⟨b, dx, vs, B, _, h2, h3, _, h5⟩, a, ha => by
    rw [h2] at ha
    rcases List.mem_cons.mp ha with q | q
    · rw [q]; exact ⟨_, h3⟩
    · exact RDs.there l _ B h5 a q
theorem RDs.there : ∀ (l : List D) (vs : List V) (A : List Addr), RDs K Z H l vs A → ∀ a ∈ A, ∃ o, H a = some o
  | [], _, _, h, a, ha => by rw [h.2] at ha; cases ha
  | d :: l, _, _, ⟨v, r, F, B, _, h2, h3, h4⟩, a, ha => by
    rw [h2] at ha
    rcases List.mem_append.mp ha with q | q
    · exact RD.there d v F h3 a q
    · exact RDs.there l r B h4 a q
end
theorem Re.there : ∀ (e : En) (σ : St) (A : List Addr), Re K Z H e σ A → ∀ a ∈ A, ∃ o, H a = some o
  | [], _, _, h, a, ha => by rw [h.2] at ha; cases ha
  | none :: e, _, _, ⟨o, r, _, h2⟩, a, ha => Re.there e r _ h2 a ha
  | some d :: e, _, _, ⟨v, r, F, B, _, h2, h3, h4⟩, a, ha => by
    rw [h2] at ha
    rcases List.mem_append.mp ha with q | q
    · exact RD.there d v F h3 a q
    · exact Re.there e r B h4 a q
end

mutual
theorem RD.noA {K : PySem.W.Frag} {Z H : Hp} : ∀ (d : D) (v : V) (A : List Addr), RD K Z H d v A → ∀ a ∈ A, ¬ NewA H a
  | .imm _, _, _, ⟨_, h2⟩, a, ha => by rw [h2] at ha; cases ha
  | .lst _, _, _, ⟨b, vs, _, h2, h3, _⟩, a, ha => by rw [h2] at ha; rw [List.mem_singleton.mp ha]; rintro (z | ⟨_, z⟩) <;> (rw [h3] at z; cases z)
  | .dK _ _, _, _, ⟨b, vs, _, h2, h3, _⟩, a, ha => by rw [h2] at ha; rw [List.mem_singleton.mp ha]; rintro (z | ⟨_, z⟩) <;> (rw [h3] at z; cases z)
  | .dT _ _, _, _, ⟨b, vs, _, h2, h3, _⟩, a, ha => by rw [h2] at ha; rw [List.mem_singleton.mp ha]; rintro (z | ⟨_, z⟩) <;> (rw [h3] at z; cases z)
  | .obj _ _ l, _, _, ⟨b, dx, vs, B, _, h2, h3, _, h5⟩, a, ha => by
    rw [h2] at ha
    rcases List.mem_cons.mp ha with q | q
    · rw [q]; rintro (z | ⟨_, z⟩) <;> (rw [h3] at z; cases z)
    · exact RDs.noA l _ B h5 a q
theorem RDs.noA {K : PySem.W.Frag} {Z H : Hp} : ∀ (l : List D) (vs : List V) (A : List Addr), RDs K Z H l vs A → ∀ a ∈ A, ¬ NewA H a
  | [], _, _, h, a, ha => by rw [h.2] at ha; cases ha
  | d :: l, _, _, ⟨v, r, F, B, _, h2, h3, h4⟩, a, ha => by
    rw [h2] at ha
    rcases List.mem_append.mp ha with q | q
    · exact RD.noA d v F h3 a q
    · exact RDs.noA l r B h4 a q
end
theorem Re.noA {K : PySem.W.Frag} {Z H : Hp} : ∀ (e : En) (σ : St) (A : List Addr), Re K Z H e σ A → ∀ a ∈ A, ¬ NewA H a
  | [], _, _, h, a, ha => by rw [h.2] at ha; cases ha
  | none :: e, _, _, ⟨o, r, _, h2⟩, a, ha => Re.noA e r _ h2 a ha
  | some d :: e, _, _, ⟨v, r, F, B, _, h2, h3, h4⟩, a, ha => by
    rw [h2] at ha
    rcases List.mem_append.mp ha with q | q
    · exact RD.noA d v F h3 a q
    · exact Re.noA e r B h4 a q
/-- the state of a def's body: its variables, and T, what waits aside (values already made), in what the heap holds -/
structure Ok (K : PySem.W.Frag) (Z H : Hp) (σ : St) (e : En) (A : List Addr) : Prop where
  zh : Same Z H
  re : Re K Z H e σ A
  nd : A.Nodup
  off : ∀ a ∈ A, Z a = none
section
variable {K : PySem.W.Frag} {Z Z' Z1 Z2 H H' H1 H2 : Hp} {A A1 B F : List Addr} {σ : St} {e : En}
theorem Ok.ex (o : Ok K Z H σ e A) (x : Ex Z H Z' H') : Ok K Z' H' σ e A := by
  refine ⟨x.zh, Re.mono x.z e σ A (fun a _ o q => x.h a o q) o.re, o.nd, fun a ha => ?_⟩
  cases q : Z' a with
  | none => rfl
  | some u =>
    rcases x.new a u q with q | q
    · rw [o.off a ha] at q; cases q
    · exact absurd q (Re.noA e σ A o.re a ha)
end
end VL
end

section
set_option Elab.async false
set_option linter.all false
set_option maxRecDepth 100000
namespace VL
open PySem PySem.Spec L2

/-! ### expressions that change nothing -/
abbrev EQ := En → Option P
def EvQ (K : PySem.W.Frag) (t : TE) (f : EQ) : Prop := ∀ ⦃σ : L2.St⦄ ⦃H Z : Hp⦄ ⦃e : En⦄ ⦃A : List Addr⦄ ⦃p : P⦄ (Q : VK), Ok K Z H σ e A → f e = some p →
  (∀ Z' H' v, Ex Z H Z' H' → Rp K Z' p v → Q v H') → t σ H Q
def EvR (K : PySem.W.Frag) (t : TE) (f : EQ) : Prop := ∀ ⦃σ : L2.St⦄ ⦃H Z : Hp⦄ ⦃e : En⦄ ⦃A : List Addr⦄ ⦃p : P⦄ (Q : VK), Ok K Z H σ e A → f e = some p →
  (∀ Z' H' v, Ex Z H Z' H' → Rr K Z' H' p v → Q v H') → t σ H Q
/-- its value may be kept -/
structure VQ (X : Cx) (x : Expr) (f : EQ) : Prop where
  out : ∃ t, PE X x t ∧ EvQ X.K t f
/-- its value may be read on the spot -/
structure VR (X : Cx) (x : Expr) (f : EQ) : Prop where
  out : ∃ t, PE X x t ∧ EvR X.K t f
theorem PE.or {X : Cx} {x : Expr} {t u : TE} (a : PE X x t) (b : PE X x u) : PE X x (fun σ H Q => t σ H Q ∨ u σ H Q) :=
  ⟨fun pins s σ H Q I h => h.elim (a.run pins s σ H Q I) (b.run pins s σ H Q I)⟩
/-- data that is the same whether read or kept -/
def P.flat : P → Bool
  | .non | .bl _ | .int _ | .str _ | .tup _ _ | .scr _ => true
  | _ => false
theorem Rr.flat {K : PySem.W.Frag} {Z H : Hp} {p : P} {v : V} (h : Rr K Z H p v) (f : p.flat = true) : Rp K Z p v := by
  cases p <;> first | exact h | cases f
def eFlat (f : EQ) : EQ := fun e => (f e).bind fun p => if p.flat = true then some p else none
section
variable {X : Cx} {x a b c : Expr} {f fa fb fc : EQ} {pos : Pos}
theorem VQ.r (h : VQ X x f) : VR X x f := by
  obtain ⟨t, h1, h2⟩ := h.out
  exact ⟨t, h1, fun σ H Z e A p Q o q k => h2 Q o q fun Z' H' v x r => k Z' H' v x (Rp.rr x.zh p v r)⟩
theorem VR.q (h : VR X x f) : VQ X x (eFlat f) := by
  obtain ⟨t, h1, h2⟩ := h.out
  refine ⟨t, h1, fun σ H Z e A p Q o q k => ?_⟩
  unfold eFlat at q
  obtain ⟨p', q1, q2⟩ := Option.bind_eq_some_iff.mp q
  by_cases hf : p'.flat = true
  · rw [if_pos hf] at q2
    cases q2
    exact h2 Q o q1 fun Z' H' v x r => k Z' H' v x (r.flat hf)
  · rw [if_neg hf] at q2
    cases q2
def eC (p : P) : EQ := fun _ => some p
theorem vq_int {i : Int} {j} : VQ X (.Constant (.int i) j pos) (eC (.int i)) := ⟨_, pe_int, fun σ H Z e A p Q o q k => by cases q; exact k Z H _ (.refl o.zh) rfl⟩
theorem vq_bl {i : Bool} {j} : VQ X (.Constant (.bool i) j pos) (eC (.bl i)) := ⟨_, pe_bl, fun σ H Z e A p Q o q k => by cases q; exact k Z H _ (.refl o.zh) rfl⟩
theorem vq_non {j} : VQ X (.Constant .none j pos) (eC .non) := ⟨_, pe_non, fun σ H Z e A p Q o q k => by cases q; exact k Z H _ (.refl o.zh) rfl⟩
theorem vq_str {i : Str} {j} : VQ X (.Constant (.str i) j pos) (eC (.str i)) := ⟨_, pe_str, fun σ H Z e A p Q o q k => by cases q; exact k Z H _ (.refl o.zh) rfl⟩

/-! ### variables -/
theorem Re.get {K : PySem.W.Frag} {Z H : Hp} : ∀ {e : En} {σ : L2.St} {A : List Addr} {i : Nat} {d : D}, Re K Z H e σ A → e[i]? = some (some d) → ∃ v F, σ[i]? = some (some v) ∧ RD K Z H d v F ∧ ∀ a ∈ F, a ∈ A
  | [], _, _, _, _, _, q => by simp at q
  | none :: e, _, _, 0, _, _, q => by simp at q
  | none :: e, _, _, i + 1, d, ⟨o, r, h1, h2⟩, q => by
    obtain ⟨v, F, q1, q2, q3⟩ := Re.get (i := i) h2 (by simpa using q)
    exact ⟨v, F, by rw [h1]; simpa using q1, q2, q3⟩
  | some d' :: e, _, _, 0, d, ⟨v, r, F, B, h1, h2, h3, h4⟩, q => by
    simp at q
    subst q
    exact ⟨v, F, by rw [h1]; rfl, h3, fun a ha => by rw [h2]; exact List.mem_append_left _ ha⟩
  | some d' :: e, _, _, i + 1, d, ⟨v, r, F, B, h1, h2, h3, h4⟩, q => by
    obtain ⟨v', F', q1, q2, q3⟩ := Re.get (i := i) h4 (by simpa using q)
    exact ⟨v', F', by rw [h1]; simpa using q1, q2, fun a ha => by rw [h2]; exact List.mem_append_right _ (q3 a ha)⟩
/-- a variable, read -/
def eV (i : Nat) : EQ := fun e => match e[i]? with
  | some (some d) => some d.p
  | _ => none
/-- a variable that holds data -/
def eQ (i : Nat) : EQ := fun e => match e[i]? with
  | some (some (.imm p)) => some p
  | _ => none
theorem vr_var (i : Nat) {y : Str} (h : PE X (.Name y pos) (tVar i)) : VR X (.Name y pos) (eV i) := by
  refine ⟨_, h, fun σ H Z e A p Q o q k => ?_⟩
  unfold eV at q
  split at q
  · rename_i d hd
    cases q
    obtain ⟨v, F, q1, q2, _⟩ := Re.get o.re hd
    exact ⟨v, q1, k Z H v (.refl o.zh) (RD.rr o.zh d v F q2)⟩
  · cases q
theorem vq_var (i : Nat) {y : Str} (h : PE X (.Name y pos) (tVar i)) : VQ X (.Name y pos) (eQ i) := by
  refine ⟨_, h, fun σ H Z e A p Q o q k => ?_⟩
  unfold eQ at q
  split at q
  · rename_i d hd
    cases q
    obtain ⟨v, F, q1, q2, _⟩ := Re.get o.re hd
    exact ⟨v, q1, k Z H v (.refl o.zh) q2.1⟩
  · cases q

/-! ### operators -/
/-- an operator by data -/
def OpV (K : PySem.W.Frag) (r : R2) (g : P → P → Option P) : Prop := ∀ ⦃H Z : Hp⦄ ⦃x y : V⦄ ⦃p q z : P⦄ (Q : VK), Same Z H → Rr K Z H p x → Rr K Z H q y → g p q = some z →
  (∀ Z' H' v, Ex Z H Z' H' → Rp K Z' z v → Q v H') → r x y H Q
def eOp (g : P → P → Option P) (fa fb : EQ) : EQ := fun e => (fa e).bind fun p => (fb e).bind fun q => g p q
theorem EvQ.op {K : PySem.W.Frag} {ta tb : TE} {r : R2} {g : P → P → Option P} (hr : OpV K r g) (ha : EvR K ta fa) (hb : EvR K tb fb) : EvQ K (tOp r ta tb) (eOp g fa fb) := fun σ H Z e A p Q o q k => by
  unfold eOp at q
  obtain ⟨pa, qa, q⟩ := Option.bind_eq_some_iff.mp q
  obtain ⟨pb, qb, q⟩ := Option.bind_eq_some_iff.mp q
  refine ha _ o qa fun Z1 H1 v x1 r1 => hb _ (o.ex x1) qb fun Z2 H2 u x2 r2 => ?_
  exact hr Q x2.zh (Rr.mono x2.z x2.h _ _ r1) r2 q fun Z3 H3 w x3 r3 => k Z3 H3 w ((x1.trans x2).trans x3) r3
/-- an operator, by data -/
def Opr (X : Cx) (f : Value → Value → Sem Value) (g : P → P → Option P) : Prop := ∃ r, OpR X f r ∧ OpV X.K r g
theorem vq_op {op : Operator} {g : P → P → Option P} (ho : Opr X (binaryOp op) g) (ha : VR X a fa) (hb : VR X b fb) : VQ X (.BinOp a op b pos) (eOp g fa fb) := by
  obtain ⟨r, ho, hr⟩ := ho
  obtain ⟨ta, h1, h2⟩ := ha.out
  obtain ⟨tb, h3, h4⟩ := hb.out
  exact ⟨_, pe_op ho h1 h3, EvQ.op hr h2 h4⟩
theorem vq_cmp {op : CmpOp} {g : P → P → Option P} (ho : Opr X (compareOp op) g) (ha : VR X a fa) (hb : VR X b fb) (hm : behindInMarks op b = false := by first | exact nomark _ | rfl) : VQ X (.Compare a [op] [b] pos) (eOp g fa fb) := by
  obtain ⟨r, ho, hr⟩ := ho
  obtain ⟨ta, h1, h2⟩ := ha.out
  obtain ⟨tb, h3, h4⟩ := hb.out
  exact ⟨_, pe_cmpR ho h1 h3 hm, EvQ.op hr h2 h4⟩
theorem OpV.or {K : PySem.W.Frag} {r r' : R2} {g g' : P → P → Option P} (h : OpV K r g) (h' : OpV K r' g') : OpV K (fun x y H Q => r x y H Q ∨ r' x y H Q) (fun p q => (g p q).or (g' p q)) := fun H Z x y p q z Q s h1 h2 e k => by
  cases e1 : g p q with
  | some z' =>
    have e' : (g p q).or (g' p q) = some z := e
    rw [e1] at e'
    cases e'
    exact .inl (h Q s h1 h2 e1 k)
  | none =>
    have e' : (g p q).or (g' p q) = some z := e
    rw [e1] at e'
    exact .inr (h' Q s h1 h2 e' k)
theorem OpV.mono {K : PySem.W.Frag} {r : R2} {g g' : P → P → Option P} (h : OpV K r g) (hg : ∀ p q z, g' p q = some z → g p q = some z) : OpV K r g' := fun H Z x y p q z Q s h1 h2 e k => h Q s h1 h2 (hg p q z e) k
/-- ints under a condition -/
def pI (C : Int → Int → Bool) (g : Int → Int → P) : P → P → Option P
  | .int i, .int j => if C i j = true then some (g i j) else none
  | _, _ => none
theorem ov_rI {K : PySem.W.Frag} {C : Int → Int → Prop} {c : Int → Int → Bool} {g : Int → Int → V} {g' : Int → Int → P} (hc : ∀ i j, c i j = true → C i j) (hg : ∀ Z i j, Rp K Z (g' i j) (g i j)) : OpV K (rI C g) (pI c g') := fun H Z x y p q z Q s h1 h2 e k => by
  unfold pI at e
  split at e
  · rename_i i j
    split at e
    · rename_i hcc
      cases e
      cases h1
      cases h2
      exact ⟨i, j, rfl, rfl, hc i j hcc, k Z H _ (.refl s) (hg Z i j)⟩
    · cases e
  · cases e
def pI0 (g : Int → Int → P) : P → P → Option P
  | .int i, .int j => some (g i j)
  | _, _ => none
theorem ov_rI0 {K : PySem.W.Frag} {g : Int → Int → V} {g' : Int → Int → P} (hg : ∀ Z i j, Rp K Z (g' i j) (g i j)) : OpV K (rI0 g) (pI0 g') := fun H Z x y p q z Q s h1 h2 e k => by
  unfold pI0 at e
  split at e
  · cases e
    cases h1
    cases h2
    exact ⟨_, _, rfl, rfl, k Z H _ (.refl s) (hg Z _ _)⟩
  · cases e
end
end VL
end

section
set_option Elab.async false
set_option linter.all false
set_option maxRecDepth 100000
namespace VL
open PySem PySem.Spec L2

/-! ### lists of data -/
section
variable {K : PySem.W.Frag} {Z H : Hp}
theorem Rps.length : ∀ {l : List P} {vs : List V}, Rps K Z l vs → l.length = vs.length
  | [], _, h => by rw [show _ = [] from h]; rfl
  | p :: l, _, ⟨v, r, h1, _, h3⟩ => by rw [h1, List.length_cons, List.length_cons, Rps.length h3]
theorem Rps.append : ∀ {l : List P} {vs : List V} {l' : List P} {vs' : List V}, Rps K Z l vs → Rps K Z l' vs' → Rps K Z (l ++ l') (vs ++ vs')
  | [], _, _, _, h, h' => by rw [show _ = [] from h]; exact h'
  | p :: l, _, _, _, ⟨v, r, h1, h2, h3⟩, h' => by rw [h1]; exact ⟨v, _, rfl, h2, Rps.append h3 h'⟩
theorem Rps.get : ∀ {l : List P} {vs : List V} {i : Nat} {p : P}, Rps K Z l vs → l[i]? = some p → ∃ v, vs[i]? = some v ∧ Rp K Z p v
  | [], _, _, _, _, q => by simp at q
  | p :: l, _, 0, _, ⟨v, r, h1, h2, h3⟩, q => by simp at q; subst q; exact ⟨v, by rw [h1]; rfl, h2⟩
  | p :: l, _, i + 1, p', ⟨v, r, h1, h2, h3⟩, q => by
    obtain ⟨u, q1, q2⟩ := Rps.get (i := i) h3 (by simpa using q)
    exact ⟨u, by rw [h1]; simpa using q1, q2⟩
theorem Rps.take : ∀ (n : Nat) {l : List P} {vs : List V}, Rps K Z l vs → Rps K Z (l.take n) (vs.take n)
  | 0, _, _, _ => by simp [Rps]
  | n + 1, [], _, h => by rw [show _ = [] from h]; simp [Rps]
  | n + 1, p :: l, _, ⟨v, r, h1, h2, h3⟩ => by rw [h1]; exact ⟨v, _, rfl, h2, Rps.take n h3⟩
theorem Rps.drop : ∀ (n : Nat) {l : List P} {vs : List V}, Rps K Z l vs → Rps K Z (l.drop n) (vs.drop n)
  | 0, _, _, h => by simpa using h
  | n + 1, [], _, h => by rw [show _ = [] from h]; simp [Rps]
  | n + 1, p :: l, _, ⟨v, r, h1, h2, h3⟩ => by rw [h1]; exact Rps.drop n h3
theorem Rps.nil_iff {l : List P} {vs : List V} (h : Rps K Z l vs) : l = [] ↔ vs = [] := by
  have e := h.length
  constructor
  · intro q; subst q; cases vs with
    | nil => rfl
    | cons _ _ => simp at e
  · intro q; subst q; cases l with
    | nil => rfl
    | cons _ _ => simp at e
theorem Rps.isEmpty {l : List P} {vs : List V} (h : Rps K Z l vs) : l.isEmpty = vs.isEmpty := by
  have e := h.length
  cases l <;> cases vs <;> simp_all
theorem Rps.singleton {p : P} {v : V} (h : Rp K Z p v) : Rps K Z [p] [v] := ⟨v, [], rfl, h, rfl⟩
theorem Rps.ints : ∀ l : List Int, Rps K Z (l.map P.int) (l.map V.int)
  | [] => rfl
  | i :: l => ⟨.int i, _, rfl, rfl, Rps.ints l⟩
theorem Rps.reverse : ∀ {l : List P} {vs : List V}, Rps K Z l vs → Rps K Z l.reverse vs.reverse
  | [], _, h => by rw [show _ = [] from h]; simp [Rps]
  | p :: l, _, ⟨v, r, h1, h2, h3⟩ => by rw [h1, List.reverse_cons, List.reverse_cons]; exact (Rps.reverse h3).append (Rps.singleton h2)
theorem Rps.mem : ∀ {l : List P} {vs : List V} {v : V}, Rps K Z l vs → v ∈ vs → ∃ p ∈ l, Rp K Z p v
  | [], _, _, h, q => by rw [show _ = [] from h] at q; cases q
  | p :: l, _, u, ⟨v, r, h1, h2, h3⟩, q => by
    rw [h1] at q
    rcases List.mem_cons.mp q with e | q
    · rw [e]; exact ⟨p, List.mem_cons_self, h2⟩
    · obtain ⟨p', m, z⟩ := Rps.mem h3 q
      exact ⟨p', List.mem_cons_of_mem _ m, z⟩
end

/-! ### data as the model's own -/
mutual
def P.d : P → PyData
  | .any => .dict []
  | .non => .none
  | .bl b => .bool b
  | .int i => .int i
  | .str x => .str x
  | .tup _ l => .tuple (P.ds l)
  | .lst l => .list (P.ds l)
  | .scr l => .list (l.map PyData.int)
  | .dK _ _ => .dict []
  | .dT _ _ => .dict []
  | .obj _ _ _ => .dict []
def P.ds : List P → List PyData
  | [] => []
  | p :: l => p.d :: P.ds l
end
theorem P.ds_map : ∀ l : List P, P.ds l = l.map P.d
  | [] => rfl
  | p :: l => by rw [P.ds, P.ds_map l]; rfl
section
variable {K : PySem.W.Frag} {Z H : Hp}
theorem dpInts : ∀ l : List Int, DpAll K H (l.map V.int) (l.map PyData.int)
  | [] => .nil
  | i :: l => .cons (.int i) (dpInts l)
mutual
theorem Rp.dp (s : Same Z H) : ∀ (p : P) (v : V), Rp K Z p v → p.d.canLay0 = true → Dp K H v p.d
  | .any, _, _, c => by simp [P.d, PyData.canLay0] at c
  | .non, _, h, _ => by rw [show _ = _ from h]; exact .non
  | .bl _, _, h, _ => by rw [show _ = _ from h]; exact .bl _
  | .int _, _, h, _ => by rw [show _ = _ from h]; exact .int _
  | .str _, _, h, _ => by rw [show _ = _ from h]; exact .str _
  | .tup _ l, _, ⟨a, vs, h1, h2, h3⟩, c => by rw [h1]; exact .tup (Same.seqT s h2.1) (Rps.dp s l vs h3 (by simpa [P.d, PyData.canLay0] using c))
  | .lst l, _, ⟨a, vs, h1, h2, h3⟩, c => by rw [h1]; exact .lst (SqL.of (s _ _ h2)) (Rps.dp s l vs h3 (by simpa [P.d, PyData.canLay0] using c))
  | .scr l, _, ⟨a, h1, h2⟩, _ => by rw [h1]; exact .lst (Same.seq s h2) (dpInts l)
  | .dK _ _, _, _, c => by simp [P.d, PyData.canLay0] at c
  | .dT _ _, _, _, c => by simp [P.d, PyData.canLay0] at c
  | .obj _ _ _, _, _, c => by simp [P.d, PyData.canLay0] at c
theorem Rps.dp (s : Same Z H) : ∀ (l : List P) (vs : List V), Rps K Z l vs → PyData.canLayAll0 (P.ds l) = true → DpAll K H vs (P.ds l)
  | [], _, h, _ => by rw [show _ = _ from h]; exact .nil
  | p :: l, _, ⟨v, r, h1, h2, h3⟩, c => by
    rw [h1]
    have c' : p.d.canLay0 = true ∧ PyData.canLayAll0 (P.ds l) = true := by simpa [P.ds, PyData.canLayAll0] using c
    exact .cons (Rp.dp s p v h2 c'.1) (Rps.dp s l r h3 c'.2)
end
theorem Rr.dp (s : Same Z H) {p : P} {v : V} (h : Rr K Z H p v) (c : p.d.canLay0 = true) : Dp K H v p.d := by
  cases p with
  | lst l =>
    obtain ⟨a, vs, h1, h2, h3⟩ := h
    rw [h1]
    exact .lst (SqL.of h2) (Rps.dp s l vs h3 (by simpa [P.d, PyData.canLay0] using c))
  | dK _ _ => simp [P.d, PyData.canLay0] at c
  | dT _ _ => simp [P.d, PyData.canLay0] at c
  | obj _ _ _ => simp [P.d, PyData.canLay0] at c
  | _ => exact Rp.dp s _ v h c
end
/-- == of data -/
def pEq : P → P → Option P := fun p q => if (SeqAt.shaped p.d && SeqAt.shaped q.d) = true then some (.bl (PyData.eqv p.d q.d)) else none
def pNe : P → P → Option P := fun p q => if (SeqAt.shaped p.d && SeqAt.shaped q.d) = true then some (.bl (!PyData.eqv p.d q.d)) else none
theorem ov_eqD {K : PySem.W.Frag} : OpV K (rEqD K) pEq := fun H Z x y p q z Q s h1 h2 e k => by
  unfold pEq at e
  split at e
  · rename_i hc
    cases e
    obtain ⟨c1, c2⟩ := Bool.and_eq_true_iff.mp hc
    exact ⟨p.d, q.d, h1.dp s (SeqAt.canLay_of_shaped c1), h2.dp s (SeqAt.canLay_of_shaped c2), c1, c2, k Z H _ (.refl s) rfl⟩
  · cases e
theorem ov_neD {K : PySem.W.Frag} : OpV K (rNeD K) pNe := fun H Z x y p q z Q s h1 h2 e k => by
  unfold pNe at e
  split at e
  · rename_i hc
    cases e
    obtain ⟨c1, c2⟩ := Bool.and_eq_true_iff.mp hc
    exact ⟨p.d, q.d, h1.dp s (SeqAt.canLay_of_shaped c1), h2.dp s (SeqAt.canLay_of_shaped c2), c1, c2, k Z H _ (.refl s) rfl⟩
  · cases e
/-! ### in -/
def inB (p : P) (l : List P) : Bool := (P.ds l).any fun z => PyData.eqv z p.d
def rInS (K : PySem.W.Frag) (neg : Bool) : R2 := fun x y H Q => ∃ d ds, Dp K H x d ∧ (Dp K H y (.list ds) ∨ Dp K H y (.tuple ds)) ∧ SeqAt.shaped d = true ∧ SeqAt.shaped (.list ds) = true ∧ Q (.bl (xor neg (ds.any fun z => PyData.eqv z d))) H
section
variable {X : Cx}
theorem op_inS (hu : X.A.units + 65 < cLine) : OpR X (compareOp .In) (rInS X.K false) := by
  intro pins s σ H x y v u Q I rx ry h
  obtain ⟨d, ds, hd, he, sd, se, q⟩ := h
  rw [Bool.false_xor] at q
  obtain ⟨as, r1⟩ := Dp.reads I d x v hd rx
  rcases he with he | he
  · obtain ⟨bs, r2⟩ := Dp.reads I (.list ds) y u he ry
    exact SeqAt.in_list_reads r2 r1 (SeqAt.canLay_of_shaped se) (SeqAt.canLay_of_shaped sd) (PyProof.Rows.room_in_shaped sd hu) ⟨.bl _, H, I, rfl, q⟩
  · obtain ⟨bs, r2⟩ := Dp.reads I (.tuple ds) y u he ry
    exact SeqAt.in_tuple_reads r2 r1 (SeqAt.canLay_of_shaped se) (SeqAt.canLay_of_shaped sd) (PyProof.Rows.room_in_shaped sd hu) ⟨.bl _, H, I, rfl, q⟩
theorem op_notInS (hu : X.A.units + 65 < cLine) : OpR X (compareOp .NotIn) (rInS X.K true) := by
  intro pins s σ H x y v u Q I rx ry h
  obtain ⟨d, ds, hd, he, sd, se, q⟩ := h
  rw [Bool.true_xor] at q
  obtain ⟨as, r1⟩ := Dp.reads I d x v hd rx
  rcases he with he | he
  · obtain ⟨bs, r2⟩ := Dp.reads I (.list ds) y u he ry
    exact SeqAt.notIn_list_reads r2 r1 (SeqAt.canLay_of_shaped se) (SeqAt.canLay_of_shaped sd) (PyProof.Rows.room_in_shaped sd hu) ⟨.bl _, H, I, rfl, q⟩
  · obtain ⟨bs, r2⟩ := Dp.reads I (.tuple ds) y u he ry
    exact SeqAt.notIn_tuple_reads r2 r1 (SeqAt.canLay_of_shaped se) (SeqAt.canLay_of_shaped sd) (PyProof.Rows.room_in_shaped sd hu) ⟨.bl _, H, I, rfl, q⟩
/-- of a dict -/
def rInDct (neg : Bool) : R2 := fun x y H Q => ∃ a o, y = .ref a ∧ DGet H a x o ∧ Q (.bl (xor neg o.isSome)) H
theorem op_inDct (hu : X.A.units + 1 < cLine) : OpR X (compareOp .In) (rInDct false) := by
  intro pins s σ H x y v u Q I rx ry h
  obtain ⟨a, o, rfl, g, q⟩ := h
  rw [Bool.false_xor] at q
  cases ry
  exact d_in hu I g rx fun s' I' => ⟨.bl _, H, I', rfl, q⟩
theorem op_notInDct (hu : X.A.units + 1 < cLine) : OpR X (compareOp .NotIn) (rInDct true) := by
  intro pins s σ H x y v u Q I rx ry h
  obtain ⟨a, o, rfl, g, q⟩ := h
  rw [Bool.true_xor] at q
  cases ry
  exact d_notIn hu I g rx fun s' I' => ⟨.bl _, H, I', rfl, q⟩
end
/-- a key, a key of several parts -/
def P.key : P → Option Key
  | .int i => some (.inl i)
  | .str x => some (.inr x)
  | _ => none
def P.keys : List P → Option (List Key)
  | [] => some []
  | p :: l => p.key.bind fun k => (P.keys l).map fun r => k :: r
def P.tkey : P → Option (List Key)
  | .tup true l => P.keys l
  | _ => none
/-- what stands at a key -/
def look {κ : Type} [DecidableEq κ] : List κ → List P → κ → Option P
  | k :: ks, p :: l, j => if k = j then some p else look ks l j
  | _, _, _ => none
section
variable {K : PySem.W.Frag} {Z H : Hp}
theorem look_val {κ : Type} [DecidableEq κ] (j : κ) : ∀ (kvs : List (κ × V)) (l : List P), Rps K Z l (kvs.map (·.2)) → match look (kvs.map (·.1)) l j with
    | some p => ∃ v, valV kvs j = some v ∧ Rp K Z p v
    | none => valV kvs j = none
  | [], l, h => by cases l <;> exact valV_nil
  | (k, u) :: kvs, [], h => by
    have e := h.length
    simp at e
  | (k, u) :: kvs, p :: l, ⟨v, r, h1, h2, h3⟩ => by
    rw [List.map_cons] at h1
    injection h1 with e1 e2
    subst e1
    subst e2
    show match (if k = j then some p else look (kvs.map (·.1)) l j) with
      | some p => ∃ v, valV ((k, u) :: kvs) j = some v ∧ Rp K Z p v
      | none => valV ((k, u) :: kvs) j = none
    by_cases q : k = j
    · rw [if_pos q]
      exact ⟨u, valV_pos (p := (k, u)) q, h2⟩
    · rw [if_neg q, valV_neg (p := (k, u)) q]
      exact look_val j kvs l h3
theorem Rp.key {p : P} {v : V} {k : Key} (h : Rp K Z p v) (e : p.key = some k) : v = kV k := by
  cases p <;> simp [P.key] at e
  · subst e; exact h
  · subst e; exact h
theorem Rps.keys : ∀ {l : List P} {vs : List V} {ks : List Key}, Rps K Z l vs → P.keys l = some ks → vs = ks.map kV
  | [], _, _, h, e => by simp [P.keys] at e; subst e; exact h
  | p :: l, _, ks, ⟨v, r, h1, h2, h3⟩, e => by
    unfold P.keys at e
    obtain ⟨k, e1, e2⟩ := Option.bind_eq_some_iff.mp e
    obtain ⟨r', e3, e4⟩ := Option.map_eq_some_iff.mp e2
    rw [h1, ← e4, List.map_cons, Rps.keys h3 e3, h2.key e1]
/-- the key of a dict by flat tuples must be a tuple of the heap itself -/
theorem Rr.look {p d : P} {x y : V} (s : Same Z H) (hx : Rr K Z H p x) (hy : Rr K Z H d y) :
    (∀ ks l k, d = .dK ks l → p.key = some k → ∃ a o, y = .ref a ∧ DGet H a x o ∧ (match look ks l k with
      | some z => ∃ v, o = some v ∧ Rp K Z z v
      | none => o = none)) := by
  intro ks l k e1 e2
  subst e1
  obtain ⟨a, kvs, h1, h2, h3, h4⟩ := hy
  have ex : x = kV k := by
    cases p <;> simp [P.key] at e2
    · subst e2; exact hx
    · subst e2; exact hx
  subst ex
  subst h3
  refine ⟨a, valV kvs k, h1, .inl ⟨kvs, k, h2, rfl, rfl⟩, ?_⟩
  have z := look_val k kvs l h4
  split at z <;> exact z
end
theorem Rr.lookT {K : PySem.W.Frag} {Z H : Hp} {p d : P} {x y : V} (s : Same Z H) (hx : Rr K Z H p x) (hy : Rr K Z H d y) :
    (∀ ks l k, d = .dT ks l → p.tkey = some k → ∃ a o, y = .ref a ∧ DGet H a x o ∧ (match VL.look ks l k with
      | some z => ∃ v, o = some v ∧ Rp K Z z v
      | none => o = none)) := by
  intro ks l k e1 e2
  subst e1
  obtain ⟨a, kvs, h1, h2, h3, h4⟩ := hy
  cases p with
  | tup bb m =>
    cases bb with
    | true =>
      obtain ⟨c, vs, g1, g2, g3⟩ := hx
      have e3 := Rps.keys g3 (show P.keys m = some k from e2)
      subst e3
      subst h3
      refine ⟨a, valV kvs k, h1, .inr ⟨kvs, k, c, h2, g1, s _ _ (g2.2 rfl), rfl⟩, ?_⟩
      have z := look_val k kvs l h4
      split at z <;> exact z
    | false => cases e2
  | _ => cases e2
def pIn (neg : Bool) : P → P → Option P := fun p q => match q with
  | .lst l => if (SeqAt.shaped p.d && SeqAt.shaped (.list (P.ds l))) = true then some (.bl (xor neg (inB p l))) else none
  | .tup _ l => if (SeqAt.shaped p.d && SeqAt.shaped (.list (P.ds l))) = true then some (.bl (xor neg (inB p l))) else none
  | _ => none
theorem ov_inS {K : PySem.W.Frag} {neg : Bool} : OpV K (rInS K neg) (pIn neg) := fun H Z x y p q z Q s h1 h2 e k => by
  unfold pIn at e
  split at e
  · rename_i l
    split at e
    · rename_i hc
      cases e
      obtain ⟨c1, c2⟩ := Bool.and_eq_true_iff.mp hc
      exact ⟨p.d, P.ds l, h1.dp s (SeqAt.canLay_of_shaped c1), .inl (h2.dp (p := .lst l) s (SeqAt.canLay_of_shaped c2)), c1, c2, k Z H _ (.refl s) rfl⟩
    · cases e
  · rename_i b l
    split at e
    · rename_i hc
      cases e
      obtain ⟨c1, c2⟩ := Bool.and_eq_true_iff.mp hc
      exact ⟨p.d, P.ds l, h1.dp s (SeqAt.canLay_of_shaped c1), .inr (h2.dp (p := .tup b l) s (SeqAt.canLay_of_shaped c2)), c1, c2, k Z H _ (.refl s) rfl⟩
    · cases e
  · cases e
def pInK (neg : Bool) : P → P → Option P := fun p q => match q with
  | .dK ks l => p.key.bind fun k => some (.bl (xor neg (look ks l k).isSome))
  | .dT ks l => p.tkey.bind fun k => some (.bl (xor neg (look ks l k).isSome))
  | _ => none
theorem ov_inK {K : PySem.W.Frag} {neg : Bool} : OpV K (rInDct neg) (pInK neg) := fun H Z x y p q z Q s h1 h2 e k => by
  unfold pInK at e
  split at e
  · rename_i ks l
    obtain ⟨j, e1, e2⟩ := Option.bind_eq_some_iff.mp e
    cases e2
    obtain ⟨a, o, g1, g2, g3⟩ := Rr.look s h1 h2 ks l j rfl e1
    refine ⟨a, o, g1, g2, k Z H _ (.refl s) ?_⟩
    split at g3 <;> rename_i q
    · obtain ⟨v, g4, _⟩ := g3
      rw [q, g4]; rfl
    · rw [q, g3]; rfl
  · rename_i ks l
    obtain ⟨j, e1, e2⟩ := Option.bind_eq_some_iff.mp e
    cases e2
    obtain ⟨a, o, g1, g2, g3⟩ := Rr.lookT s h1 h2 ks l j rfl e1
    refine ⟨a, o, g1, g2, k Z H _ (.refl s) ?_⟩
    split at g3 <;> rename_i q
    · obtain ⟨v, g4, _⟩ := g3
      rw [q, g4]; rfl
    · rw [q, g3]; rfl
  · cases e
/-! ### + of sequences -/
def pCatS : P → P → Option P
  | .str x, .str y => if x.length + y.length ≤ sizeLine then some (.str (x ++ y)) else none
  | _, _ => none
/-- whether x + y is one of the heap itself -/
def catB (b : Bool) (x : List P) (c : Bool) (y : List P) : Bool := if x.isEmpty = true then c else if y.isEmpty = true then b else true
def pCatT : P → P → Option P
  | .tup b x, .tup c y => if x.length + y.length ≤ sizeLine then some (.tup (catB b x c y) (x ++ y)) else none
  | _, _ => none
def pCatL : P → P → Option P
  | .lst x, .lst y => if x.length + y.length ≤ sizeLine then some (.lst (x ++ y)) else none
  | _, _ => none
section
variable {K : PySem.W.Frag}
theorem ov_catS : OpV K (fun x y H Q => ∃ i j, x = .str i ∧ y = .str j ∧ i.length + j.length ≤ sizeLine ∧ Q (.str (i ++ j)) H) pCatS := fun H Z x y p q z Q s h1 h2 e k => by
  unfold pCatS at e
  split at e
  · split at e
    · rename_i hc
      cases e
      exact ⟨_, _, h1, h2, hc, k Z H _ (.refl s) rfl⟩
    · cases e
  · cases e
theorem ov_catT : OpV K (rCatA K) pCatT := fun H Z x y p q z Q s h1 h2 e k => by
  unfold pCatT at e
  split at e
  · rename_i bl l cl l'
    split at e
    · rename_i hc
      cases e
      obtain ⟨a, vs, e1, h3, h4⟩ := h1
      obtain ⟨b, us, e2, h5, h6⟩ := h2
      refine ⟨a, b, vs, us, e1, e2, Same.seqT s h3.1, Same.seqT s h5.1, by rw [← h4.length, ← h6.length]; exact hc, fun q => ?_, fun q q' => ?_, fun q q' pp hp => ?_⟩
      · have hl : l = [] := h4.nil_iff.mpr q
        subst hl
        exact k Z H _ (.refl s) ⟨b, us, rfl, h5, h6⟩
      · have hl : l' = [] := h6.nil_iff.mpr q'
        subst hl
        refine k Z H _ (.refl s) ⟨a, vs, rfl, ?_, ?_⟩
        · have hn : l ≠ [] := fun z => q (h4.nil_iff.mp z)
          have eb : catB bl l cl [] = bl := by
            unfold catB
            cases l with
            | nil => exact absurd rfl hn
            | cons _ _ => rfl
          rw [eb]; exact h3
        · rw [List.append_nil]; exact h4
      · exact k _ _ _ (Ex.lay s hp) ⟨pp, vs ++ us, rfl, TpOk.of upd_same, Rps.mono (Ex.lay s hp).z _ _ (h4.append h6)⟩
    · cases e
  · cases e
theorem ov_catL : OpV K rCat pCatL := fun H Z x y p q z Q s h1 h2 e k => by
  unfold pCatL at e
  split at e
  · rename_i l l'
    split at e
    · rename_i hc
      cases e
      obtain ⟨a, vs, e1, h3, h4⟩ := h1
      obtain ⟨b, us, e2, h5, h6⟩ := h2
      refine ⟨a, b, vs, us, e1, e2, h3, h5, by rw [← h4.length, ← h6.length]; exact hc, fun pp hp => ?_⟩
      exact k _ _ _ (Ex.lay s hp) ⟨pp, vs ++ us, rfl, upd_same, Rps.mono (Ex.lay s hp).z _ _ (h4.append h6)⟩
    · cases e
  · cases e
end
/-! ### the operators -/
def pAdd : P → P → Option P
  | .int i, .int j => some (.int (i + j))
  | .str x, .str y => if x.length + y.length ≤ sizeLine then some (.str (x ++ y)) else none
  | .tup b x, .tup c y => if x.length + y.length ≤ sizeLine then some (.tup (catB b x c y) (x ++ y)) else none
  | .lst x, .lst y => if x.length + y.length ≤ sizeLine then some (.lst (x ++ y)) else none
  | _, _ => none
def pSub : P → P → Option P
  | .int i, .int j => some (.int (i - j))
  | _, _ => none
def pMul : P → P → Option P
  | .int i, .int j => if i.natAbs.log2 + j.natAbs.log2 < 1000000 then some (.int (i * j)) else none
  | _, _ => none
def pFdiv : P → P → Option P
  | .int i, .int j => if 0 < j ∧ j.natAbs.log2 < 9000 then some (.int (i / j)) else none
  | _, _ => none
def pMod : P → P → Option P
  | .int i, .int j => if 0 < j then some (.int (i % j)) else none
  | _, _ => none
def pPow : P → P → Option P
  | .int i, .int j => if 0 ≤ j ∧ j ≤ 1000000 ∧ i.natAbs < 18446744073709551616 then some (.int (i ^ j.toNat)) else none
  | _, _ => none
def pLt : P → P → Option P
  | .int i, .int j => some (.bl (decide (i < j)))
  | .str i, .str j => some (.bl (decide (i.cps.toList < j.cps.toList)))
  | _, _ => none
def pLe : P → P → Option P
  | .int i, .int j => some (.bl (decide (i ≤ j)))
  | _, _ => none
def pGt : P → P → Option P
  | .int i, .int j => some (.bl (decide (j < i)))
  | _, _ => none
def pGe : P → P → Option P
  | .int i, .int j => some (.bl (decide (j ≤ i)))
  | _, _ => none
section
variable {X : Cx} {a b : Expr} {fa fb : EQ} {pos : Pos}
theorem opr_add : Opr X (binaryOp .Add) pAdd :=
  ⟨_, OpR.or op_add (OpR.or op_add_str (OpR.or op_catA op_cat)), (OpV.or (ov_rI0 (g' := fun i j => .int (i + j)) fun _ _ _ => rfl) (OpV.or ov_catS (OpV.or ov_catT ov_catL))).mono fun p q z e => by
    unfold pAdd at e
    split at e <;> first | exact e | (simpa [pI0, pCatS, pCatT, pCatL] using e) | cases e⟩
theorem opr_sub : Opr X (binaryOp .Sub) pSub :=
  ⟨_, op_sub, (ov_rI0 (g' := fun i j => .int (i - j)) fun _ _ _ => rfl).mono fun p q z e => by
    unfold pSub at e
    split at e <;> first | exact e | cases e⟩
theorem opr_mul : Opr X (binaryOp .Mult) pMul :=
  ⟨_, op_mulW, (ov_rI (c := fun i j => decide (i.natAbs.log2 + j.natAbs.log2 < 1000000)) (g' := fun i j => .int (i * j)) (fun i j h => of_decide_eq_true h) fun _ _ _ => rfl).mono fun p q z e => by
    unfold pMul at e
    split at e
    · unfold pI
      simpa using e
    · cases e⟩
theorem opr_fdiv : Opr X (binaryOp .FloorDiv) pFdiv :=
  ⟨_, op_fdivW, (ov_rI (c := fun i j => decide (0 < j ∧ j.natAbs.log2 < 9000)) (g' := fun i j => .int (i / j)) (fun i j h => of_decide_eq_true h) fun _ _ _ => rfl).mono fun p q z e => by
    unfold pFdiv at e
    split at e
    · unfold pI
      simpa using e
    · cases e⟩
theorem opr_mod : Opr X (binaryOp .Mod) pMod :=
  ⟨_, op_mod, (ov_rI (c := fun i j => decide (0 < j)) (g' := fun i j => .int (i % j)) (fun i j h => of_decide_eq_true h) fun _ _ _ => rfl).mono fun p q z e => by
    unfold pMod at e
    split at e
    · unfold pI
      simpa using e
    · cases e⟩
theorem opr_pow : Opr X (binaryOp .Pow) pPow :=
  ⟨_, op_pow, (ov_rI (c := fun i j => decide (0 ≤ j ∧ j ≤ 1000000 ∧ i.natAbs < 18446744073709551616)) (g' := fun i j => .int (i ^ j.toNat)) (fun i j h => of_decide_eq_true h) fun _ _ _ => rfl).mono fun p q z e => by
    unfold pPow at e
    split at e
    · unfold pI
      simpa using e
    · cases e⟩
def pLtS : P → P → Option P
  | .str i, .str j => some (.bl (decide (i.cps.toList < j.cps.toList)))
  | _, _ => none
theorem ov_ltS {K : PySem.W.Frag} : OpV K (fun x y H Q => ∃ i j, x = .str i ∧ y = .str j ∧ Q (.bl (decide (i.cps.toList < j.cps.toList))) H) pLtS := fun H Z x y p q z Q s h1 h2 e k => by
  unfold pLtS at e
  split at e
  · cases e
    exact ⟨_, _, h1, h2, k Z H _ (.refl s) rfl⟩
  · cases e
theorem opr_lt : Opr X (compareOp .Lt) pLt :=
  ⟨_, OpR.or op_lt op_lt_str, (OpV.or (ov_rI0 (g' := fun i j => .bl (decide (i < j))) fun _ _ _ => rfl) ov_ltS).mono fun p q z e => by
    unfold pLt at e
    split at e <;> first | exact e | cases e⟩
theorem opr_le : Opr X (compareOp .LtE) pLe :=
  ⟨_, op_le, (ov_rI0 (g' := fun i j => .bl (decide (i ≤ j))) fun _ _ _ => rfl).mono fun p q z e => by
    unfold pLe at e
    split at e <;> first | exact e | cases e⟩
theorem opr_gt : Opr X (compareOp .Gt) pGt :=
  ⟨_, op_gt, (ov_rI0 (g' := fun i j => .bl (decide (j < i))) fun _ _ _ => rfl).mono fun p q z e => by
    unfold pGt at e
    split at e <;> first | exact e | cases e⟩
theorem opr_ge : Opr X (compareOp .GtE) pGe :=
  ⟨_, op_ge, (ov_rI0 (g' := fun i j => .bl (decide (j ≤ i))) fun _ _ _ => rfl).mono fun p q z e => by
    unfold pGe at e
    split at e <;> first | exact e | cases e⟩
theorem opr_eq (hu : X.A.units + 64 < cLine) : Opr X (compareOp .Eq) pEq := ⟨_, op_eqD hu, ov_eqD⟩
theorem opr_ne (hu : X.A.units + 64 < cLine) : Opr X (compareOp .NotEq) pNe := ⟨_, op_neD hu, ov_neD⟩
def pInA (neg : Bool) : P → P → Option P := fun p q => (pIn neg p q).or (pInK neg p q)
theorem opr_in (hu : X.A.units + 65 < cLine) : Opr X (compareOp .In) (pInA false) := ⟨_, OpR.or (op_inS hu) (op_inDct (by omega)), OpV.or ov_inS ov_inK⟩
theorem opr_notIn (hu : X.A.units + 65 < cLine) : Opr X (compareOp .NotIn) (pInA true) := ⟨_, OpR.or (op_notInS hu) (op_notInDct (by omega)), OpV.or ov_inS ov_inK⟩
/-- is None, is True, is False -/
def pIs (neg : Bool) : P → P → Option P
  | .bl a, .bl b => some (.bl (xor neg (decide (a = b))))
  | .non, .non => some (.bl (!neg))
  | .bl _, .non => some (.bl neg)
  | .int _, .non => some (.bl neg)
  | .str _, .non => some (.bl neg)
  | .tup _ _, .non => some (.bl neg)
  | .lst _, .non => some (.bl neg)
  | .obj _ _ _, .non => some (.bl neg)
  | _, _ => none
theorem Rr.isN {K : PySem.W.Frag} {Z H : Hp} {p : P} {x : V} (h : Rr K Z H p x) (hp : p ≠ .non) (ha : p ≠ .any) : decide (x = .non) = false := by
  refine decide_eq_false fun e => ?_
  subst e
  cases p <;> first | exact absurd rfl hp | exact absurd rfl ha | (cases h; done) | (obtain ⟨a, b, c, _⟩ := h; cases c; done) | (obtain ⟨a, b, _⟩ := h; cases b; done) | (obtain ⟨a, b, c, d, _⟩ := h; cases d; done)
theorem opr_is : Opr X (compareOp .Is) (pIs false) := by
  refine ⟨_, OpR.or op_isN op_isBl, fun H Z x y p q z Q s h1 h2 e k => ?_⟩
  unfold pIs at e
  split at e
  · cases e; cases h1; cases h2; exact .inr ⟨_, _, rfl, rfl, k Z H _ (.refl s) (by rw [Bool.false_xor]; rfl)⟩
  · cases e; cases h1; cases h2; exact .inl ⟨rfl, k Z H _ (.refl s) rfl⟩
  all_goals first
    | (cases e; cases h2; exact .inl ⟨rfl, by rw [h1.isN (by intro z; cases z) (by intro z; cases z)]; exact k Z H _ (.refl s) rfl⟩)
    | cases e
theorem opr_isnot : Opr X (compareOp .IsNot) (pIs true) := by
  refine ⟨_, OpR.or op_notN op_notBl, fun H Z x y p q z Q s h1 h2 e k => ?_⟩
  unfold pIs at e
  split at e
  · cases e; cases h1; cases h2; exact .inr ⟨_, _, rfl, rfl, k Z H _ (.refl s) (by rw [Bool.true_xor]; rfl)⟩
  · cases e; cases h1; cases h2; exact .inl ⟨rfl, k Z H _ (.refl s) rfl⟩
  all_goals first
    | (cases e; cases h2; exact .inl ⟨rfl, by rw [h1.isN (by intro z; cases z) (by intro z; cases z)]; exact k Z H _ (.refl s) rfl⟩)
    | cases e
end
end VL
end

section
set_option Elab.async false
set_option linter.all false
set_option maxRecDepth 100000
namespace VL
open PySem PySem.Spec L2

/-! ### expressions that may change what variables hold -/
abbrev EF := En → Option (P × En)
abbrev ED := En → Option (D × En)
def EvF (K : PySem.W.Frag) (t : TE) (f : EF) : Prop := ∀ ⦃σ : L2.St⦄ ⦃H Z : Hp⦄ ⦃e e' : En⦄ ⦃A : List Addr⦄ ⦃p : P⦄ (Q : VK), Ok K Z H σ e A → f e = some (p, e') →
  (∀ Z' H' v A', Stp A Z H Z' H' → Ok K Z' H' σ e' A' → Sub A H A' → Rp K Z' p v → Q v H') → t σ H Q
def EvD (K : PySem.W.Frag) (t : TE) (f : ED) : Prop := ∀ ⦃σ : L2.St⦄ ⦃H Z : Hp⦄ ⦃e e' : En⦄ ⦃A : List Addr⦄ ⦃d : D⦄ (Q : VK), Ok K Z H σ e A → f e = some (d, e') →
  (∀ Z' H' v A' F, Stp A Z H Z' H' → Ok K Z' H' σ e' A' → RD K Z' H' d v F → (F ++ A').Nodup → (∀ a ∈ F, Z' a = none) → Sub A H (F ++ A') → Q v H') → t σ H Q
structure VF (X : Cx) (x : Expr) (f : EF) : Prop where
  out : ∃ t, PE X x t ∧ EvF X.K t f
structure VD (X : Cx) (x : Expr) (f : ED) : Prop where
  out : ∃ t, PE X x t ∧ EvD X.K t f
def fQ (f : EQ) : EF := fun e => (f e).map fun p => (p, e)
def dF (f : EF) : ED := fun e => (f e).map fun q => (.imm q.1, q.2)
section
variable {X : Cx} {x a b c : Expr} {f : EQ} {fa fb fc : EF} {pos : Pos}
theorem VQ.toF (h : VQ X x f) : VF X x (fQ f) := by
  obtain ⟨t, h1, h2⟩ := h.out
  refine ⟨t, h1, fun σ H Z e e' A p Q o q k => ?_⟩
  unfold fQ at q
  obtain ⟨p', q1, q2⟩ := Option.map_eq_some_iff.mp q
  cases q2
  exact h2 Q o q1 fun Z' H' v x r => k Z' H' v A x.stp (o.ex x) .refl r
theorem VF.toD (h : VF X x fa) : VD X x (dF fa) := by
  obtain ⟨t, h1, h2⟩ := h.out
  refine ⟨t, h1, fun σ H Z e e' A p Q o q k => ?_⟩
  unfold dF at q
  obtain ⟨p', q1, q2⟩ := Option.map_eq_some_iff.mp q
  cases q2
  exact h2 Q o q1 fun Z' H' v A' s o' sb r => k Z' H' v A' [] s o' ⟨r, rfl⟩ o'.nd (fun _ z => nomatch z) sb
theorem VQ.toD (h : VQ X x f) : VD X x (dF (fQ f)) := h.toF.toD
def fOp (g : P → P → Option P) (fa fb : EF) : EF := fun e => (fa e).bind fun p => (fb p.2).bind fun q => (g p.1 q.1).map fun z => (z, q.2)
theorem EvF.op {K : PySem.W.Frag} {ta tb : TE} {r : R2} {g : P → P → Option P} (hr : OpV K r g) (ha : EvF K ta fa) (hb : EvF K tb fb) : EvF K (tOp r ta tb) (fOp g fa fb) := fun σ H Z e e' A p Q o q k => by
  unfold fOp at q
  obtain ⟨⟨pa, e1⟩, qa, q⟩ := Option.bind_eq_some_iff.mp q
  obtain ⟨⟨pb, e2⟩, qb, q⟩ := Option.bind_eq_some_iff.mp q
  obtain ⟨z, qz, q⟩ := Option.map_eq_some_iff.mp q
  cases q
  refine ha _ o qa fun Z1 H1 v A1 s1 o1 b1 r1 => hb _ o1 qb fun Z2 H2 u A2 s2 o2 b2 r2 => ?_
  refine hr Q o2.zh (Rp.rr o2.zh _ _ (Rp.mono s2.z _ _ r1)) (Rp.rr o2.zh _ _ r2) qz fun Z3 H3 w x3 r3 => ?_
  exact k Z3 H3 w A2 ((s1.trans b1 s2).trans (Sub.trans s1 b1 b2) x3.stp) (o2.ex x3) (Sub.trans s1 b1 b2) r3
theorem vf_op {op : Operator} {g : P → P → Option P} (ho : Opr X (binaryOp op) g) (ha : VF X a fa) (hb : VF X b fb) : VF X (.BinOp a op b pos) (fOp g fa fb) := by
  obtain ⟨r, ho, hr⟩ := ho
  obtain ⟨ta, h1, h2⟩ := ha.out
  obtain ⟨tb, h3, h4⟩ := hb.out
  exact ⟨_, pe_op ho h1 h3, EvF.op hr h2 h4⟩
theorem vf_cmp {op : CmpOp} {g : P → P → Option P} (ho : Opr X (compareOp op) g) (ha : VF X a fa) (hb : VF X b fb) (hm : behindInMarks op b = false := by first | exact nomark _ | rfl) : VF X (.Compare a [op] [b] pos) (fOp g fa fb) := by
  obtain ⟨r, ho, hr⟩ := ho
  obtain ⟨ta, h1, h2⟩ := ha.out
  obtain ⟨tb, h3, h4⟩ := hb.out
  exact ⟨_, pe_cmpR ho h1 h3 hm, EvF.op hr h2 h4⟩
end

/-! ### a[b] -/
/-- an item, from either end -/
def pIx : P → P → Option P
  | .lst l, .int i => atI l i
  | .tup _ l, .int i => atI l i
  | .scr l, .int i => (atI l i).map P.int
  | .str z, .int i => if z.length ≤ sizeLine then (atI z.cps.toList i).map fun c => .str ⟨#[c]⟩ else none
  | .dK ks l, p => p.key.bind fun k => look ks l k
  | .dT ks l, p => p.tkey.bind fun k => look ks l k
  | _, _ => none
def rIxD : R2 := fun x y H Q => ∃ a v, x = .ref a ∧ DGet H a y (some v) ∧ Q v H
theorem atI_rps {K : PySem.W.Frag} {Z : Hp} {l : List P} {vs : List V} {i : Int} {p : P} (h : Rps K Z l vs) (e : atI l i = some p) : ∃ v, atI vs i = some v ∧ Rp K Z p v := by
  unfold atI at e ⊢
  rw [← h.length]
  obtain ⟨j, e1, e2⟩ := Option.bind_eq_some_iff.mp e
  obtain ⟨v, q1, q2⟩ := h.get e2
  exact ⟨v, by rw [e1]; exact q1, q2⟩
def pIxL : P → P → Option P
  | .lst l, .int i => atI l i
  | .scr l, .int i => (atI l i).map P.int
  | _, _ => none
def pIxT : P → P → Option P
  | .tup _ l, .int i => atI l i
  | _, _ => none
def pIxS : P → P → Option P
  | .str z, .int i => if z.length ≤ sizeLine then (atI z.cps.toList i).map fun c => .str ⟨#[c]⟩ else none
  | _, _ => none
def pIxD : P → P → Option P
  | .dK ks l, p => p.key.bind fun k => look ks l k
  | .dT ks l, p => p.tkey.bind fun k => look ks l k
  | _, _ => none
section
variable {K : PySem.W.Frag}
theorem ov_ixL : OpV K (rIxL K) pIxL := fun H Z x y p q z Q s h1 h2 e k => by
  unfold pIxL at e
  split at e
  · obtain ⟨a, vs, e1, h3, h4⟩ := h1
    cases h2
    obtain ⟨v, q1, q2⟩ := atI_rps h4 e
    exact ⟨a, vs, _, v, e1, rfl, SqL.of h3, q1, k Z H _ (.refl s) q2⟩
  · rename_i l i
    obtain ⟨a, e1, h3⟩ := h1
    cases h2
    obtain ⟨j, q1, q2⟩ := Option.map_eq_some_iff.mp e
    subst q2
    obtain ⟨v, q3, q4⟩ := atI_rps (K := K) (Z := Z) (l := l.map P.int) (i := i) (p := .int j) (Rps.ints l) (by
      unfold atI at q1 ⊢
      rw [List.length_map]
      obtain ⟨m, e3, e4⟩ := Option.bind_eq_some_iff.mp q1
      rw [e3]
      show (l.map P.int)[m]? = _
      rw [List.getElem?_map, e4]; rfl)
    exact ⟨a, _, _, v, e1, rfl, Same.seq s h3, q3, k Z H _ (.refl s) q4⟩
  · cases e
theorem ov_ixT : OpV K (rIxT K) pIxT := fun H Z x y p q z Q s h1 h2 e k => by
  unfold pIxT at e
  split at e
  · obtain ⟨a, vs, e1, h3, h4⟩ := h1
    cases h2
    obtain ⟨v, q1, q2⟩ := atI_rps h4 e
    exact ⟨a, vs, _, v, e1, rfl, Same.seqT s h3.1, q1, k Z H _ (.refl s) q2⟩
  · cases e
theorem ov_ixS : OpV K rIxS pIxS := fun H Z x y p q z Q s h1 h2 e k => by
  unfold pIxS at e
  split at e
  · split at e
    · rename_i hz
      obtain ⟨c, q1, q2⟩ := Option.map_eq_some_iff.mp e
      subst q2
      cases h1
      cases h2
      exact ⟨_, _, c, rfl, rfl, hz, q1, k Z H _ (.refl s) rfl⟩
    · cases e
  · cases e
theorem ov_ixD : OpV K rIxD pIxD := fun H Z x y p q z Q s h1 h2 e k => by
  unfold pIxD at e
  split at e
  · rename_i ks l
    obtain ⟨j, e1, e2⟩ := Option.bind_eq_some_iff.mp e
    obtain ⟨a, o, g1, g2, g3⟩ := Rr.look s h2 h1 ks l j rfl e1
    rw [e2] at g3
    obtain ⟨v, g4, g5⟩ := g3
    subst g4
    exact ⟨a, v, g1, g2, k Z H _ (.refl s) g5⟩
  · rename_i ks l
    obtain ⟨j, e1, e2⟩ := Option.bind_eq_some_iff.mp e
    obtain ⟨a, o, g1, g2, g3⟩ := Rr.lookT s h2 h1 ks l j rfl e1
    rw [e2] at g3
    obtain ⟨v, g4, g5⟩ := g3
    subst g4
    exact ⟨a, v, g1, g2, k Z H _ (.refl s) g5⟩
  · cases e
end
section
variable {X : Cx} {a b : Expr} {fa fb : EQ} {ga gb : EF} {pos : Pos}
theorem EvQ.or {K : PySem.W.Frag} {t u : TE} {f g h : EQ} (a : EvQ K t f) (b : EvQ K u g) (k : ∀ e p, h e = some p → f e = some p ∨ g e = some p) : EvQ K (fun σ H Q => t σ H Q ∨ u σ H Q) h := fun σ H Z e A p Q o q c =>
  (k e p q).elim (fun z => .inl (a Q o z c)) fun z => .inr (b Q o z c)
theorem EvF.or {K : PySem.W.Frag} {t u : TE} {f g h : EF} (a : EvF K t f) (b : EvF K u g) (k : ∀ e p, h e = some p → f e = some p ∨ g e = some p) : EvF K (fun σ H Q => t σ H Q ∨ u σ H Q) h := fun σ H Z e e' A p Q o q c =>
  (k e (p, e') q).elim (fun z => .inl (a Q o z c)) fun z => .inr (b Q o z c)
theorem eOp_or {g g1 g2 : P → P → Option P} (h : ∀ p q z, g p q = some z → g1 p q = some z ∨ g2 p q = some z) {fa fb : EQ} : ∀ e p, eOp g fa fb e = some p → eOp g1 fa fb e = some p ∨ eOp g2 fa fb e = some p := fun e p q => by
  unfold eOp at q ⊢
  obtain ⟨pa, qa, q⟩ := Option.bind_eq_some_iff.mp q
  obtain ⟨pb, qb, q⟩ := Option.bind_eq_some_iff.mp q
  rw [qa, Option.bind_some, Option.bind_some, qb, Option.bind_some, Option.bind_some]
  exact h pa pb p q
theorem fOp_or {g g1 g2 : P → P → Option P} (h : ∀ p q z, g p q = some z → g1 p q = some z ∨ g2 p q = some z) {fa fb : EF} : ∀ e p, fOp g fa fb e = some p → fOp g1 fa fb e = some p ∨ fOp g2 fa fb e = some p := fun e p q => by
  unfold fOp at q ⊢
  obtain ⟨pa, qa, q⟩ := Option.bind_eq_some_iff.mp q
  obtain ⟨pb, qb, q⟩ := Option.bind_eq_some_iff.mp q
  obtain ⟨z, qz, q⟩ := Option.map_eq_some_iff.mp q
  rw [qa, Option.bind_some, Option.bind_some, qb, Option.bind_some, Option.bind_some]
  exact (h _ _ z qz).imp (fun w => by rw [w]; exact congrArg some q) fun w => by rw [w]; exact congrArg some q
def pIxA : P → P → Option P := fun p q => (pIxL p q).or ((pIxT p q).or (pIxS p q))
theorem pIx_or (p q z : P) (e : pIx p q = some z) : pIxA p q = some z ∨ pIxD p q = some z := by
  unfold pIx at e
  split at e <;> first | (exact .inl e) | (exact .inr e) | (left; simpa [pIxA, pIxL, pIxT, pIxS] using e) | cases e
theorem ov_ixA {K : PySem.W.Frag} : OpV K (fun x y H Q => rIxL K x y H Q ∨ rIxT K x y H Q ∨ rIxS x y H Q) pIxA := OpV.or ov_ixL (OpV.or ov_ixT ov_ixS)
theorem vq_ix (hu : X.A.units + 1 < cLine) (ha : VR X a fa) (hb : VR X b fb) (hs : PlainIx b := by exact fun _ _ => rfl) : VQ X (.Subscript a b pos) (eOp pIx fa fb) := by
  obtain ⟨ta, h1, h2⟩ := ha.out
  obtain ⟨tb, h3, h4⟩ := hb.out
  exact ⟨_, PE.or (pe_ix (IxR.or ix_list (IxR.or ix_tup ix_str)) h1 h3 hs) (pe_dget hu h1 h3 hs), EvQ.or (EvQ.op ov_ixA h2 h4) (EvQ.op (r := rIxD) ov_ixD h2 h4) (eOp_or pIx_or)⟩
theorem vf_ix (hu : X.A.units + 1 < cLine) (ha : VF X a ga) (hb : VF X b gb) (hs : PlainIx b := by exact fun _ _ => rfl) : VF X (.Subscript a b pos) (fOp pIx ga gb) := by
  obtain ⟨ta, h1, h2⟩ := ha.out
  obtain ⟨tb, h3, h4⟩ := hb.out
  exact ⟨_, PE.or (pe_ix (IxR.or ix_list (IxR.or ix_tup ix_str)) h1 h3 hs) (pe_dget hu h1 h3 hs), EvF.or (EvF.op ov_ixA h2 h4) (EvF.op (r := rIxD) ov_ixD h2 h4) (fOp_or pIx_or)⟩
end
end VL
end

section
set_option Elab.async false
set_option linter.all false
set_option maxRecDepth 100000
namespace VL
open PySem PySem.Spec L2

/-! ### several expressions in a row -/
def EvRs (K : PySem.W.Frag) (t : TA) (f : En → Option (List P)) : Prop := ∀ ⦃σ : L2.St⦄ ⦃H Z : Hp⦄ ⦃e : En⦄ ⦃A : List Addr⦄ ⦃ps : List P⦄ (Q : List V → Hp → Prop), Ok K Z H σ e A → f e = some ps →
  (∀ Z' H' vs, Ex Z H Z' H' → Rrs K Z' H' ps vs → Q vs H') → t σ H Q
def EvQs (K : PySem.W.Frag) (t : TA) (f : En → Option (List P)) : Prop := ∀ ⦃σ : L2.St⦄ ⦃H Z : Hp⦄ ⦃e : En⦄ ⦃A : List Addr⦄ ⦃ps : List P⦄ (Q : List V → Hp → Prop), Ok K Z H σ e A → f e = some ps →
  (∀ Z' H' vs, Ex Z H Z' H' → Rps K Z' ps vs → Q vs H') → t σ H Q
def EvFs (K : PySem.W.Frag) (t : TA) (f : En → Option (List P × En)) : Prop := ∀ ⦃σ : L2.St⦄ ⦃H Z : Hp⦄ ⦃e e' : En⦄ ⦃A : List Addr⦄ ⦃ps : List P⦄ (Q : List V → Hp → Prop), Ok K Z H σ e A → f e = some (ps, e') →
  (∀ Z' H' vs A', Stp A Z H Z' H' → Ok K Z' H' σ e' A' → Sub A H A' → Rps K Z' ps vs → Q vs H') → t σ H Q
structure VRs (X : Cx) (xs : List Expr) (f : En → Option (List P)) : Prop where
  out : ∃ t, PA X xs t ∧ EvRs X.K t f
structure VQs (X : Cx) (xs : List Expr) (f : En → Option (List P)) : Prop where
  out : ∃ t, PA X xs t ∧ EvQs X.K t f
structure VFs (X : Cx) (xs : List Expr) (f : En → Option (List P × En)) : Prop where
  out : ∃ t, PA X xs t ∧ EvFs X.K t f
def eNil : En → Option (List P) := fun _ => some []
def eCons (f : EQ) (g : En → Option (List P)) : En → Option (List P) := fun e => (f e).bind fun p => (g e).map fun ps => p :: ps
def fNil : En → Option (List P × En) := fun e => some ([], e)
def fCons (f : EF) (g : En → Option (List P × En)) : En → Option (List P × En) := fun e => (f e).bind fun p => (g p.2).map fun ps => (p.1 :: ps.1, ps.2)
section
variable {X : Cx} {x : Expr} {xs : List Expr} {f : EQ} {g : En → Option (List P)} {ff : EF} {gg : En → Option (List P × En)} {pos : Pos}
theorem vrs_nil : VRs X [] eNil := ⟨_, pa_nil, fun σ H Z e A ps Q o q k => by cases q; exact k Z H [] (.refl o.zh) rfl⟩
theorem vqs_nil : VQs X [] eNil := ⟨_, pa_nil, fun σ H Z e A ps Q o q k => by cases q; exact k Z H [] (.refl o.zh) rfl⟩
theorem vfs_nil : VFs X [] fNil := ⟨_, pa_nil, fun σ H Z e e' A ps Q o q k => by cases q; exact k Z H [] A (Ex.refl o.zh).stp o .refl rfl⟩
theorem vrs_cons (h : VR X x f) (hs : VRs X xs g) (hx : starEach (x :: xs) X.env = (false, eval x X.env) :: starEach xs X.env := by rfl) : VRs X (x :: xs) (eCons f g) := by
  obtain ⟨t, h1, h2⟩ := h.out
  obtain ⟨u, h3, h4⟩ := hs.out
  refine ⟨_, pa_cons h1 h3 hx, fun σ H Z e A ps Q o q k => ?_⟩
  unfold eCons at q
  obtain ⟨p, q1, q2⟩ := Option.bind_eq_some_iff.mp q
  obtain ⟨r, q3, q4⟩ := Option.map_eq_some_iff.mp q2
  subst q4
  refine h2 _ o q1 fun Z1 H1 v x1 r1 => h4 _ (o.ex x1) q3 fun Z2 H2 vs x2 r2 => ?_
  exact k Z2 H2 _ (x1.trans x2) ⟨v, vs, rfl, Rr.mono x2.z x2.h _ _ r1, r2⟩
theorem vqs_cons (h : VQ X x f) (hs : VQs X xs g) (hx : starEach (x :: xs) X.env = (false, eval x X.env) :: starEach xs X.env := by rfl) : VQs X (x :: xs) (eCons f g) := by
  obtain ⟨t, h1, h2⟩ := h.out
  obtain ⟨u, h3, h4⟩ := hs.out
  refine ⟨_, pa_cons h1 h3 hx, fun σ H Z e A ps Q o q k => ?_⟩
  unfold eCons at q
  obtain ⟨p, q1, q2⟩ := Option.bind_eq_some_iff.mp q
  obtain ⟨r, q3, q4⟩ := Option.map_eq_some_iff.mp q2
  subst q4
  refine h2 _ o q1 fun Z1 H1 v x1 r1 => h4 _ (o.ex x1) q3 fun Z2 H2 vs x2 r2 => ?_
  exact k Z2 H2 _ (x1.trans x2) ⟨v, vs, rfl, Rp.mono x2.z _ _ r1, r2⟩
theorem vfs_cons (h : VF X x ff) (hs : VFs X xs gg) (hx : starEach (x :: xs) X.env = (false, eval x X.env) :: starEach xs X.env := by rfl) : VFs X (x :: xs) (fCons ff gg) := by
  obtain ⟨t, h1, h2⟩ := h.out
  obtain ⟨u, h3, h4⟩ := hs.out
  refine ⟨_, pa_cons h1 h3 hx, fun σ H Z e e' A ps Q o q k => ?_⟩
  unfold fCons at q
  obtain ⟨⟨p, e1⟩, q1, q2⟩ := Option.bind_eq_some_iff.mp q
  obtain ⟨⟨r, e2⟩, q3, q4⟩ := Option.map_eq_some_iff.mp q2
  cases q4
  refine h2 _ o q1 fun Z1 H1 v A1 s1 o1 b1 r1 => h4 _ o1 q3 fun Z2 H2 vs A2 s2 o2 b2 r2 => ?_
  exact k Z2 H2 _ A2 (s1.trans b1 s2) o2 (Sub.trans s1 b1 b2) ⟨v, vs, rfl, Rp.mono s2.z _ _ r1, r2⟩
/-! ### displays -/
def eTup (g : En → Option (List P)) : EQ := fun e => (g e).bind fun l => if l.length ≤ sizeLine then some (.tup true l) else none
def eLst (g : En → Option (List P)) : EQ := fun e => (g e).bind fun l => if l.length ≤ sizeLine then some (.lst l) else none
def fTup (g : En → Option (List P × En)) : EF := fun e => (g e).bind fun l => if l.1.length ≤ sizeLine then some (.tup true l.1, l.2) else none
def fLst (g : En → Option (List P × En)) : EF := fun e => (g e).bind fun l => if l.1.length ≤ sizeLine then some (.lst l.1, l.2) else none
def dLst (g : En → Option (List P × En)) : ED := fun e => (g e).bind fun l => if l.1.length ≤ sizeLine then some (.lst l.1, l.2) else none
theorem vq_tup {n} (h : VQs X xs g) : VQ X (.Tuple xs n pos) (eTup g) := by
  obtain ⟨t, h1, h2⟩ := h.out
  refine ⟨_, pe_tup h1, fun σ H Z e A p Q o q k => ?_⟩
  unfold eTup at q
  obtain ⟨l, q1, q2⟩ := Option.bind_eq_some_iff.mp q
  split at q2
  · rename_i hl
    cases q2
    refine h2 _ o q1 fun Z1 H1 vs x1 r1 => ⟨by rw [← r1.length]; exact hl, fun pp hp => ?_⟩
    exact k _ _ _ (x1.trans (Ex.lay x1.zh hp)) ⟨pp, vs, rfl, TpOk.of upd_same, Rps.mono (Ex.lay x1.zh hp).z _ _ r1⟩
  · cases q2
theorem vq_lst (h : VQs X xs g) : VQ X (.List xs pos) (eLst g) := by
  obtain ⟨t, h1, h2⟩ := h.out
  refine ⟨_, pe_lst h1, fun σ H Z e A p Q o q k => ?_⟩
  unfold eLst at q
  obtain ⟨l, q1, q2⟩ := Option.bind_eq_some_iff.mp q
  split at q2
  · rename_i hl
    cases q2
    refine h2 _ o q1 fun Z1 H1 vs x1 r1 => ⟨by rw [← r1.length]; exact hl, fun pp hp => ?_⟩
    exact k _ _ _ (x1.trans (Ex.lay x1.zh hp)) ⟨pp, vs, rfl, upd_same, Rps.mono (Ex.lay x1.zh hp).z _ _ r1⟩
  · cases q2
theorem vf_tup {n} (h : VFs X xs gg) : VF X (.Tuple xs n pos) (fTup gg) := by
  obtain ⟨t, h1, h2⟩ := h.out
  refine ⟨_, pe_tup h1, fun σ H Z e e' A p Q o q k => ?_⟩
  unfold fTup at q
  obtain ⟨⟨l, e1⟩, q1, q2⟩ := Option.bind_eq_some_iff.mp q
  dsimp only at q2
  split at q2
  · rename_i hl
    cases q2
    refine h2 _ o q1 fun Z1 H1 vs A1 s1 o1 b1 r1 => ⟨by rw [← r1.length]; exact hl, fun pp hp => ?_⟩
    exact k _ _ _ A1 (s1.trans b1 (Ex.lay o1.zh hp).stp) (o1.ex (Ex.lay o1.zh hp)) b1 ⟨pp, vs, rfl, TpOk.of upd_same, Rps.mono (Ex.lay o1.zh hp).z _ _ r1⟩
  · cases q2
theorem vf_lst (h : VFs X xs gg) : VF X (.List xs pos) (fLst gg) := by
  obtain ⟨t, h1, h2⟩ := h.out
  refine ⟨_, pe_lst h1, fun σ H Z e e' A p Q o q k => ?_⟩
  unfold fLst at q
  obtain ⟨⟨l, e1⟩, q1, q2⟩ := Option.bind_eq_some_iff.mp q
  dsimp only at q2
  split at q2
  · rename_i hl
    cases q2
    refine h2 _ o q1 fun Z1 H1 vs A1 s1 o1 b1 r1 => ⟨by rw [← r1.length]; exact hl, fun pp hp => ?_⟩
    exact k _ _ _ A1 (s1.trans b1 (Ex.lay o1.zh hp).stp) (o1.ex (Ex.lay o1.zh hp)) b1 ⟨pp, vs, rfl, upd_same, Rps.mono (Ex.lay o1.zh hp).z _ _ r1⟩
  · cases q2
/-- a new object that stands alone -/
theorem Ok.fresh {K : PySem.W.Frag} {Z H : Hp} {σ : L2.St} {e : En} {A : List Addr} (o : Ok K Z H σ e A) {pp : Addr} {u : HO} (hp : H pp = none) :
    Ok K Z (upd H pp u) σ e A ∧ ([pp] ++ A).Nodup ∧ (∀ a ∈ [pp], Z a = none) ∧ Sub A H ([pp] ++ A) := by
  refine ⟨o.ex (Ex.own o.zh hp), ?_, ?_, ?_⟩
  · refine List.nodup_cons.mpr ⟨fun hm => ?_, o.nd⟩
    obtain ⟨w, hw⟩ := Re.there e σ A o.re pp hm
    rw [hp] at hw; cases hw
  · intro a ha
    rw [List.mem_singleton.mp ha]
    exact o.zh.free hp
  · intro a ha
    rcases List.mem_cons.mp ha with q | q
    · rw [q]; exact .inr hp
    · exact .inl q
theorem vd_lst (h : VFs X xs gg) : VD X (.List xs pos) (dLst gg) := by
  obtain ⟨t, h1, h2⟩ := h.out
  refine ⟨_, pe_lst h1, fun σ H Z e e' A p Q o q k => ?_⟩
  unfold dLst at q
  obtain ⟨⟨l, e1⟩, q1, q2⟩ := Option.bind_eq_some_iff.mp q
  dsimp only at q2
  split at q2
  · rename_i hl
    cases q2
    refine h2 _ o q1 fun Z1 H1 vs A1 s1 o1 b1 r1 => ⟨by rw [← r1.length]; exact hl, fun pp hp => ?_⟩
    obtain ⟨w1, w2, w3, w4⟩ := o1.fresh (u := .lst vs) hp
    exact k _ _ _ A1 [pp] (s1.trans b1 (Ex.own o1.zh hp).stp) w1 ⟨pp, vs, rfl, rfl, upd_same, r1⟩ w2 w3 (Sub.trans s1 b1 w4)
  · cases q2
/-- {} -/
def dNewK : ED := fun e => some (.dK [] [], e)
def dNewT : ED := fun e => some (.dT [] [], e)
theorem vd_newK : VD X (.Dict [] [] pos) dNewK := by
  refine ⟨_, pe_dnewK, fun σ H Z e e' A p Q o q k => ?_⟩
  cases q
  intro pp hp
  obtain ⟨w1, w2, w3, w4⟩ := o.fresh (u := .dK []) hp
  exact k _ _ _ A [pp] (Ex.own o.zh hp).stp w1 ⟨pp, [], rfl, rfl, upd_same, rfl, rfl⟩ w2 w3 w4
theorem vd_newT : VD X (.Dict [] [] pos) dNewT := by
  refine ⟨_, pe_dnewT, fun σ H Z e e' A p Q o q k => ?_⟩
  cases q
  intro pp hp
  obtain ⟨w1, w2, w3, w4⟩ := o.fresh (u := .dT []) hp
  exact k _ _ _ A [pp] (Ex.own o.zh hp).stp w1 ⟨pp, [], rfl, rfl, upd_same, rfl, rfl⟩ w2 w3 w4
end

/-! ### calls of built-ins -/
def CallV (K : PySem.W.Frag) (r : List V → Hp → VK → Prop) (g : List P → Option P) : Prop := ∀ ⦃H Z : Hp⦄ ⦃vs : List V⦄ ⦃ps : List P⦄ ⦃z : P⦄ (Q : VK), Same Z H → Rrs K Z H ps vs → g ps = some z →
  (∀ Z' H' v, Ex Z H Z' H' → Rp K Z' z v → Q v H') → r vs H Q
def Cal (X : Cx) (f : Value) (g : List P → Option P) : Prop := ∃ r, CallR X f r ∧ CallV X.K r g
theorem CallV.or {K : PySem.W.Frag} {r r' : List V → Hp → VK → Prop} {g g' h : List P → Option P} (a : CallV K r g) (b : CallV K r' g') (hh : ∀ ps z, h ps = some z → g ps = some z ∨ g' ps = some z) :
    CallV K (fun xs H Q => r xs H Q ∨ r' xs H Q) h := fun H Z vs ps z Q s h1 e k => (hh ps z e).elim (fun q => .inl (a Q s h1 q k)) fun q => .inr (b Q s h1 q k)
def eCall (g : List P → Option P) (f : En → Option (List P)) : EQ := fun e => (f e).bind g
def fCall (g : List P → Option P) (f : En → Option (List P × En)) : EF := fun e => (f e).bind fun l => (g l.1).map fun z => (z, l.2)
section
variable {X : Cx} {x : Expr} {xs : List Expr} {f : En → Option (List P)} {ff : En → Option (List P × En)} {g : List P → Option P} {pos p : Pos} {nm : Str} {id T : String}
theorem EvQ.call {K : PySem.W.Frag} {t : TA} {r : List V → Hp → VK → Prop} (h : EvRs K t f) (c : CallV K r g) : EvQ K (tCB r t) (eCall g f) := fun σ H Z e A p Q o q k => by
  unfold eCall at q
  obtain ⟨l, q1, q2⟩ := Option.bind_eq_some_iff.mp q
  exact h _ o q1 fun Z1 H1 vs x1 r1 => c Q x1.zh r1 q2 fun Z2 H2 v x2 r2 => k Z2 H2 v (x1.trans x2) r2
theorem EvF.call {K : PySem.W.Frag} {t : TA} {r : List V → Hp → VK → Prop} (h : EvFs K t ff) (c : CallV K r g) : EvF K (tCB r t) (fCall g ff) := fun σ H Z e e' A p Q o q k => by
  unfold fCall at q
  obtain ⟨⟨l, e1⟩, q1, q2⟩ := Option.bind_eq_some_iff.mp q
  obtain ⟨z, q3, q4⟩ := Option.map_eq_some_iff.mp q2
  cases q4
  exact h _ o q1 fun Z1 H1 vs A1 s1 o1 b1 r1 => c Q o1.zh (Rps.rr o1.zh _ _ r1) q3 fun Z2 H2 v x2 r2 => k Z2 H2 v A1 (s1.trans b1 x2.stp) (o1.ex x2) b1 r2
theorem vq_callB (hc : Cal X (.builtin id) g) (hg : Gl X nm) (hm : X.mg nm = none) (hv : bootBuiltins nm = some (.builtin id)) (ha : VRs X (x :: xs) f)
    (hn : nm ≠ "__name__" := by decide) (hdb : (nm == ("__debug__" : Str)) = false := by decide) (he : starEach (x :: xs) X.env = (false, eval x X.env) :: starEach xs X.env := by rfl) (hpl : (backTo pos (starEach xs X.env)).any (·.1) = false := by rfl) : VQ X (.Call (.Name nm p) (x :: xs) [] pos) (eCall g f) := by
  obtain ⟨r, h1, h2⟩ := hc
  obtain ⟨t, h3, h4⟩ := ha.out
  exact ⟨_, pe_callB h1 hg hm hv h3 hn hdb he hpl, EvQ.call h4 h2⟩
theorem vf_callB (hc : Cal X (.builtin id) g) (hg : Gl X nm) (hm : X.mg nm = none) (hv : bootBuiltins nm = some (.builtin id)) (ha : VFs X (x :: xs) ff)
    (hn : nm ≠ "__name__" := by decide) (hdb : (nm == ("__debug__" : Str)) = false := by decide) (he : starEach (x :: xs) X.env = (false, eval x X.env) :: starEach xs X.env := by rfl) (hpl : (backTo pos (starEach xs X.env)).any (·.1) = false := by rfl) : VF X (.Call (.Name nm p) (x :: xs) [] pos) (fCall g ff) := by
  obtain ⟨r, h1, h2⟩ := hc
  obtain ⟨t, h3, h4⟩ := ha.out
  exact ⟨_, pe_callB h1 hg hm hv h3 hn hdb he hpl, EvF.call h4 h2⟩
theorem vq_callT (hc : Cal X (.type T) g) (hg : Gl X nm) (hm : X.mg nm = none) (hv : bootBuiltins nm = some (.type T)) (ha : VRs X (x :: xs) f)
    (hn : nm ≠ "__name__" := by decide) (hdb : (nm == ("__debug__" : Str)) = false := by decide) (he : starEach (x :: xs) X.env = (false, eval x X.env) :: starEach xs X.env := by rfl) (hpl : (backTo pos (starEach xs X.env)).any (·.1) = false := by rfl) : VQ X (.Call (.Name nm p) (x :: xs) [] pos) (eCall g f) := by
  obtain ⟨r, h1, h2⟩ := hc
  obtain ⟨t, h3, h4⟩ := ha.out
  exact ⟨_, pe_callTy h1 hg hm hv h3 hn hdb he hpl, EvQ.call h4 h2⟩
theorem vf_callT (hc : Cal X (.type T) g) (hg : Gl X nm) (hm : X.mg nm = none) (hv : bootBuiltins nm = some (.type T)) (ha : VFs X (x :: xs) ff)
    (hn : nm ≠ "__name__" := by decide) (hdb : (nm == ("__debug__" : Str)) = false := by decide) (he : starEach (x :: xs) X.env = (false, eval x X.env) :: starEach xs X.env := by rfl) (hpl : (backTo pos (starEach xs X.env)).any (·.1) = false := by rfl) : VF X (.Call (.Name nm p) (x :: xs) [] pos) (fCall g ff) := by
  obtain ⟨r, h1, h2⟩ := hc
  obtain ⟨t, h3, h4⟩ := ha.out
  exact ⟨_, pe_callTy h1 hg hm hv h3 hn hdb he hpl, EvF.call h4 h2⟩
end
section
variable {K : PySem.W.Frag} {Z H : Hp} {vs : List V} {p q : P} {X : Cx}
theorem rrs1 (h : Rrs K Z H [p] vs) : ∃ v, vs = [v] ∧ Rr K Z H p v := by
  obtain ⟨v, r, h1, h2, h3⟩ := h
  rw [show r = [] from h3] at h1
  exact ⟨v, h1, h2⟩
theorem rrs2 (h : Rrs K Z H [p, q] vs) : ∃ v u, vs = [v, u] ∧ Rr K Z H p v ∧ Rr K Z H q u := by
  obtain ⟨v, r, h1, h2, h3⟩ := h
  obtain ⟨u, h4, h5⟩ := rrs1 h3
  exact ⟨v, u, by rw [h1, h4], h2, h5⟩
def gLen : List P → Option P
  | [.str y] => if y.length ≤ sizeLine then some (.int y.length) else none
  | [.lst l] => some (.int l.length)
  | [.tup _ l] => some (.int l.length)
  | [.scr l] => some (.int l.length)
  | _ => none
def gLenD : List P → Option P
  | [.dK ks _] => some (.int ks.length)
  | _ => none
def gLenA : List P → Option P := fun ps => (gLen ps).or (gLenD ps)
theorem cv_len : CallV K (fun xs H Q => ∃ x n, xs = [x] ∧ LenV K x H n ∧ Q (.int n) H) gLen := fun H Z vs ps z Q s h e k => by
  unfold gLen at e
  split at e
  · obtain ⟨v, h1, h2⟩ := rrs1 h
    split at e
    · rename_i hy
      cases e
      cases h2
      exact ⟨_, _, h1, ⟨hy, rfl⟩, k Z H _ (.refl s) rfl⟩
    · cases e
  · obtain ⟨v, h1, h2⟩ := rrs1 h
    cases e
    obtain ⟨a, us, e1, h3, h4⟩ := h2
    subst e1
    exact ⟨_, us.length, h1, .inl ⟨us, SqL.of h3, rfl⟩, k Z H _ (.refl s) (by rw [h4.length]; rfl)⟩
  · obtain ⟨v, h1, h2⟩ := rrs1 h
    cases e
    obtain ⟨a, us, e1, h3, h4⟩ := h2
    subst e1
    exact ⟨_, us.length, h1, .inr ⟨us, Same.seqT s h3.1, rfl⟩, k Z H _ (.refl s) (by rw [h4.length]; rfl)⟩
  · rename_i l
    obtain ⟨v, h1, h2⟩ := rrs1 h
    cases e
    obtain ⟨a, e1, h3⟩ := h2
    subst e1
    exact ⟨_, (l.map V.int).length, h1, .inl ⟨_, Same.seq s h3, rfl⟩, k Z H _ (.refl s) (by rw [List.length_map]; rfl)⟩
  · cases e
theorem d_lenR : CallR X (.builtin "len") (fun xs H Q => ∃ a kvs, xs = [V.ref a] ∧ Rd H a (.dK kvs) ∧ Q (.int kvs.length) H) := by
  intro pins s σ H xs us Q I r h
  obtain ⟨a, kvs, rfl, e, q⟩ := h
  obtain ⟨u, rfl, rx⟩ := vals1 r
  cases rx
  exact d_len I e fun t s' I' => ⟨.int kvs.length, H, I', ⟨t, rfl⟩, q⟩
theorem cal_len : Cal X (.builtin "len") gLenA := by
  refine ⟨_, CallR.or call_len d_lenR, CallV.or (h := gLenA) cv_len (g' := gLenD) (fun H Z vs ps z Q s h e k => ?_) fun ps z e => ?_⟩
  · unfold gLenD at e
    split at e
    · obtain ⟨v, h1, h2⟩ := rrs1 h
      cases e
      obtain ⟨a, kvs, e1, h3, h4, h5⟩ := h2
      subst e1
      subst h4
      exact ⟨a, kvs, h1, h3, k Z H _ (.refl s) (by rw [List.length_map]; rfl)⟩
    · cases e
  · unfold gLenA at e
    cases q : gLen ps with
    | some w => rw [q] at e; exact .inl e
    | none => rw [q] at e; exact .inr e
def gAbs : List P → Option P
  | [.int i] => some (.int (if i < 0 then -i else i))
  | _ => none
theorem cal_abs : Cal X (.builtin "abs") gAbs := ⟨_, call_abs, fun H Z vs ps z Q s h e k => by
  unfold gAbs at e
  split at e
  · obtain ⟨v, h1, h2⟩ := rrs1 h
    cases e
    cases h2
    exact ⟨_, h1, k Z H _ (.refl s) rfl⟩
  · cases e⟩
def gMax2 : List P → Option P
  | [.int i, .int j] => some (.int (if j > i then j else i))
  | _ => none
def gMin2 : List P → Option P
  | [.int i, .int j] => some (.int (if j < i then j else i))
  | _ => none
theorem cal_max2 (hc : X.calm = true) : Cal X (.builtin "max") gMax2 := ⟨_, call_max2 hc, fun H Z vs ps z Q s h e k => by
  unfold gMax2 at e
  split at e
  · obtain ⟨v, u, h1, h2, h3⟩ := rrs2 h
    cases e
    cases h2
    cases h3
    exact ⟨_, _, h1, k Z H _ (.refl s) rfl⟩
  · cases e⟩
theorem cal_min2 (hc : X.calm = true) : Cal X (.builtin "min") gMin2 := ⟨_, call_min2 hc, fun H Z vs ps z Q s h e k => by
  unfold gMin2 at e
  split at e
  · obtain ⟨v, u, h1, h2, h3⟩ := rrs2 h
    cases e
    cases h2
    cases h3
    exact ⟨_, _, h1, k Z H _ (.refl s) rfl⟩
  · cases e⟩
def gTuple : List P → Option P
  | [.lst l] => some (.tup true l)
  | [.tup b l] => some (.tup b l)
  | _ => none
theorem cal_tuple : Cal X (.type "tuple") gTuple := ⟨_, call_tuple_of, fun H Z vs ps z Q s h e k => by
  unfold gTuple at e
  split at e
  · obtain ⟨v, h1, h2⟩ := rrs1 h
    cases e
    obtain ⟨a, us, e1, h3, h4⟩ := h2
    subst e1
    exact ⟨a, us, h1, .inl ⟨SqL.of h3, fun l hl => k _ _ _ (Ex.lay s hl) ⟨l, us, rfl, TpOk.of upd_same, Rps.mono (Ex.lay s hl).z _ _ h4⟩⟩⟩
  · obtain ⟨v, h1, h2⟩ := rrs1 h
    cases e
    obtain ⟨a, us, e1, h3, h4⟩ := h2
    subst e1
    exact ⟨a, us, h1, .inr ⟨Same.seqT s h3.1, k Z H _ (.refl s) ⟨a, us, rfl, h3, h4⟩⟩⟩
  · cases e⟩
def gList : List P → Option P
  | [.lst l] => some (.lst l)
  | [.tup _ l] => some (.lst l)
  | _ => none
theorem cal_list : Cal X (.type "list") gList := ⟨_, call_list_of, fun H Z vs ps z Q s h e k => by
  unfold gList at e
  split at e
  · obtain ⟨v, h1, h2⟩ := rrs1 h
    cases e
    obtain ⟨a, us, e1, h3, h4⟩ := h2
    subst e1
    exact ⟨a, us, h1, .inl (SqL.of h3), fun l hl => k _ _ _ (Ex.lay s hl) ⟨l, us, rfl, upd_same, Rps.mono (Ex.lay s hl).z _ _ h4⟩⟩
  · obtain ⟨v, h1, h2⟩ := rrs1 h
    cases e
    obtain ⟨a, us, e1, h3, h4⟩ := h2
    subst e1
    exact ⟨a, us, h1, .inr (Same.seqT s h3.1), fun l hl => k _ _ _ (Ex.lay s hl) ⟨l, us, rfl, upd_same, Rps.mono (Ex.lay s hl).z _ _ h4⟩⟩
  · cases e⟩
end
end VL
end

section
set_option Elab.async false
set_option linter.all false
set_option maxRecDepth 100000
namespace VL
open PySem PySem.Spec L2

/-! ### variables: put, taken out -/
theorem nd_sub {A B C : List Addr} (h : (A ++ (B ++ C)).Nodup) : (A ++ C).Nodup := by
  rw [List.nodup_append] at h ⊢
  obtain ⟨h1, h2, h3⟩ := h
  rw [List.nodup_append] at h2
  exact ⟨h1, h2.2.1, fun a ha b hb => h3 a ha b (List.mem_append_right _ hb)⟩
section
variable {K : PySem.W.Frag} {Z H : Hp}
theorem Re.set : ∀ {e : En} {σ : L2.St} {A F : List Addr} {i : Nat} {d : D} {v : V}, Re K Z H e σ A → RD K Z H d v F → (F ++ A).Nodup → i < e.length →
    ∃ A', Re K Z H (e.set i (some d)) (σ.set i (some v)) A' ∧ A'.Nodup ∧ ∀ a ∈ A', a ∈ F ∨ a ∈ A
  | [], _, _, _, _, _, _, _, _, _, hi => absurd hi (Nat.not_lt_zero _)
  | none :: e, _, A, F, 0, d, v, ⟨o, r, h1, h2⟩, hd, nd, _ => ⟨F ++ A, ⟨v, r, F, A, by rw [h1]; rfl, rfl, hd, h2⟩, nd, fun a ha => List.mem_append.mp ha⟩
  | some d0 :: e, _, A, F, 0, d, v, ⟨v0, r, F0, B, h1, h2, h3, h4⟩, hd, nd, _ => by
    subst h2
    exact ⟨F ++ B, ⟨v, r, F, B, by rw [h1]; rfl, rfl, hd, h4⟩, nd_sub nd, fun a ha => (List.mem_append.mp ha).imp id fun z => List.mem_append_right _ z⟩
  | none :: e, _, A, F, i + 1, d, v, ⟨o, r, h1, h2⟩, hd, nd, hi => by
    obtain ⟨A', q1, q2, q3⟩ := Re.set (i := i) h2 hd nd (Nat.lt_of_succ_lt_succ hi)
    exact ⟨A', ⟨o, r.set i (some v), by rw [h1]; rfl, q1⟩, q2, q3⟩
  | some d0 :: e, _, A, F, i + 1, d, v, ⟨v0, r, F0, B, h1, h2, h3, h4⟩, hd, nd, hi => by
    subst h2
    obtain ⟨A', q1, q2, q3⟩ := Re.set (i := i) h4 hd (nd_sub nd) (Nat.lt_of_succ_lt_succ hi)
    rw [List.nodup_append] at nd
    obtain ⟨n1, n2, n3⟩ := nd
    rw [List.nodup_append] at n2
    refine ⟨F0 ++ A', ⟨v0, r.set i (some v), F0, A', by rw [h1]; rfl, rfl, h3, q1⟩, ?_, fun a ha => ?_⟩
    · rw [List.nodup_append]
      refine ⟨n2.1, q2, fun a ha b hb e => ?_⟩
      subst e
      rcases q3 a hb with z | z
      · exact n3 a z a (List.mem_append_left _ ha) rfl
      · exact n2.2.2 a ha a z rfl
    · rcases List.mem_append.mp ha with z | z
      · exact .inr (List.mem_append_left _ z)
      · exact (q3 a z).imp id fun z => List.mem_append_right _ z
/-- taken out -/
theorem Re.out : ∀ {e : En} {σ : L2.St} {A : List Addr} {i : Nat} {d : D}, Re K Z H e σ A → e[i]? = some (some d) → A.Nodup →
    ∃ v F B, σ[i]? = some (some v) ∧ RD K Z H d v F ∧ Re K Z H (e.set i none) σ B ∧ (F ++ B).Nodup ∧ ∀ a, a ∈ F ++ B → a ∈ A
  | [], _, _, _, _, _, q, _ => by simp at q
  | none :: e, _, _, 0, _, _, q, _ => by simp at q
  | none :: e, _, A, i + 1, d, ⟨o, r, h1, h2⟩, q, nd => by
    obtain ⟨v, F, B, q1, q2, q3, q4, q5⟩ := Re.out (i := i) h2 (by simpa using q) nd
    exact ⟨v, F, B, by rw [h1]; simpa using q1, q2, ⟨o, r, h1, q3⟩, q4, q5⟩
  | some d' :: e, _, A, 0, d, ⟨v, r, F, B, h1, h2, h3, h4⟩, q, nd => by
    simp at q
    subst q
    subst h2
    exact ⟨v, F, B, by rw [h1]; rfl, h3, ⟨some v, r, h1, h4⟩, nd, fun a ha => ha⟩
  | some d' :: e, _, A, i + 1, d, ⟨v0, r, F0, B0, h1, h2, h3, h4⟩, q, nd => by
    subst h2
    rw [List.nodup_append] at nd
    obtain ⟨v, F, B, q1, q2, q3, q4, q5⟩ := Re.out (i := i) h4 (by simpa using q) nd.2.1
    refine ⟨v, F, F0 ++ B, by rw [h1]; simpa using q1, q2, ⟨v0, r, F0, B, h1, rfl, h3, q3⟩, ?_, fun a ha => ?_⟩
    · rw [List.nodup_append] at q4 ⊢
      refine ⟨q4.1, ?_, fun a ha b hb e => ?_⟩
      · rw [List.nodup_append]
        exact ⟨nd.1, q4.2.1, fun a ha b hb e => nd.2.2 a ha b (q5 b (List.mem_append_right _ hb)) e⟩
      · subst e
        rcases List.mem_append.mp hb with z | z
        · exact nd.2.2 a z a (q5 a (List.mem_append_left _ ha)) rfl
        · exact q4.2.2 a ha a z rfl
    · rcases List.mem_append.mp ha with z | z
      · exact List.mem_append_right _ (q5 a (List.mem_append_left _ z))
      · rcases List.mem_append.mp z with z | z
        · exact List.mem_append_left _ z
        · exact List.mem_append_right _ (q5 a (List.mem_append_right _ z))
theorem Re.len : ∀ {e : En} {σ : L2.St} {A : List Addr}, Re K Z H e σ A → e.length = σ.length
  | [], _, _, h => by rw [h.1]; rfl
  | none :: e, _, _, ⟨o, r, h1, h2⟩ => by rw [h1, List.length_cons, List.length_cons, Re.len h2]
  | some d :: e, _, _, ⟨v, r, F, B, h1, h2, h3, h4⟩ => by rw [h1, List.length_cons, List.length_cons, Re.len h4]
end
theorem set_same {α : Type} : ∀ {l : List α} {i : Nat} {x : α}, l[i]? = some x → l.set i x = l
  | [], _, _, h => by simp at h
  | y :: l, 0, x, h => by simp at h; rw [h]; rfl
  | y :: l, i + 1, x, h => by
    show y :: l.set i x = y :: l
    rw [set_same (by simpa using h)]
theorem Ok.set {K : PySem.W.Frag} {Z H : Hp} {σ : L2.St} {e : En} {A F : List Addr} {i : Nat} {d : D} {v : V} (o : Ok K Z H σ e A) (h : RD K Z H d v F) (nd : (F ++ A).Nodup) (off : ∀ a ∈ F, Z a = none) (hi : i < e.length) :
    ∃ A', Ok K Z H (σ.set i (some v)) (e.set i (some d)) A' ∧ ∀ a ∈ A', a ∈ F ++ A := by
  obtain ⟨A', q1, q2, q3⟩ := o.re.set h nd hi
  exact ⟨A', ⟨o.zh, q1, q2, fun a ha => (q3 a ha).elim (off a) (o.off a)⟩, fun a ha => (q3 a ha).elim (List.mem_append_left _) (List.mem_append_right _)⟩

/-! ### arguments of a call of one's own -/
inductive Ar where
  /-- a variable: what it holds is lent -/
  | lend (i : Nat)
  | val (f : ED)
def evA : List Ar → En → Option (List (D ⊕ Nat) × En)
  | [], e => some ([], e)
  | .lend i :: r, e => match e[i]? with
    | some (some _) => (evA r e).map fun q => (.inr i :: q.1, q.2)
    | _ => none
  | .val f :: r, e => (f e).bind fun p => (evA r p.2).map fun q => (.inl p.1 :: q.1, q.2)
/-- the arguments as they stand when the call is made: what waits aside, and variables -/
def takeA : List (D ⊕ Nat) → En → Option (List D × En)
  | [], e => some ([], e)
  | .inl d :: r, e => (takeA r e).map fun q => (d :: q.1, q.2)
  | .inr i :: r, e => match e[i]? with
    | some (some (.imm p)) => (takeA r e).map fun q => (.imm p :: q.1, q.2)
    | some (some d) => (takeA r (e.set i none)).map fun q => (d :: q.1, q.2)
    | _ => none
def putA : List (D ⊕ Nat) → List D → En → En
  | .inl _ :: r, _ :: ds, e => putA r ds e
  | .inr i :: r, d :: ds, e => putA r ds (e.set i (some d))
  | _, _, e => e
section
variable (K : PySem.W.Frag) (Z H : Hp) (σ : L2.St)
/-- values aside -/
def Ra : List (D ⊕ Nat) → List V → List Addr → Prop
  | [], vs, T => vs = [] ∧ T = []
  | .inl d :: r, vs, T => ∃ v us F B, vs = v :: us ∧ T = F ++ B ∧ RD K Z H d v F ∧ Ra r us B
  | .inr i :: r, vs, T => ∃ v us, vs = v :: us ∧ σ[i]? = some (some v) ∧ Ra r us T
end
section
variable {K : PySem.W.Frag} {Z Z' H H' : Hp} {σ : L2.St}
theorem Ra.mono (z : Same Z Z') : ∀ {as : List (D ⊕ Nat)} {vs : List V} {T : List Addr}, (∀ a ∈ T, ∀ o, H a = some o → H' a = some o) → Ra K Z H σ as vs T → Ra K Z' H' σ as vs T
  | [], _, _, _, h => h
  | .inl d :: r, _, _, k, ⟨v, us, F, B, h1, h2, h3, h4⟩ => ⟨v, us, F, B, h1, h2, RD.mono z d v F (fun a ha => k a (by rw [h2]; exact List.mem_append_left _ ha)) h3, Ra.mono z (fun a ha => k a (by rw [h2]; exact List.mem_append_right _ ha)) h4⟩
  | .inr i :: r, _, _, k, ⟨v, us, h1, h2, h3⟩ => ⟨v, us, h1, h2, Ra.mono z k h3⟩
theorem Ra.there : ∀ {as : List (D ⊕ Nat)} {vs : List V} {T : List Addr}, Ra K Z H σ as vs T → ∀ a ∈ T, ∃ o, H a = some o
  | [], _, _, h, a, ha => by rw [h.2] at ha; cases ha
  | .inl d :: r, _, _, ⟨v, us, F, B, h1, h2, h3, h4⟩, a, ha => by
    rw [h2] at ha
    rcases List.mem_append.mp ha with q | q
    · exact RD.there d v F h3 a q
    · exact Ra.there h4 a q
  | .inr i :: r, _, _, ⟨v, us, h1, h2, h3⟩, a, ha => Ra.there h3 a ha
/-- what is handed over, and what stays -/
theorem take_ok : ∀ {as : List (D ⊕ Nat)} {vs : List V} {T A : List Addr} {e e' : En} {ds : List D}, Ra K Z H σ as vs T → Re K Z H e σ A → (T ++ A).Nodup → takeA as e = some (ds, e') →
    ∃ G B, RDs K Z H ds vs G ∧ Re K Z H e' σ B ∧ (G ++ B).Nodup ∧ (∀ a ∈ G ++ B, a ∈ T ++ A) ∧ e'.length = e.length
  | [], _, _, A, e, e', ds, h, he, nd, q => by
    cases q
    obtain ⟨h1, h2⟩ := h
    subst h1
    subst h2
    exact ⟨[], A, ⟨rfl, rfl⟩, he, nd, fun a ha => ha, rfl⟩
  | .inl d :: r, _, _, A, e, e', ds, ⟨v, us, F, B, h1, h2, h3, h4⟩, he, nd, q => by
    obtain ⟨⟨ds', e1⟩, q1, q2⟩ := Option.map_eq_some_iff.mp (show (takeA r e).map _ = _ from q)
    cases q2
    subst h1
    subst h2
    rw [List.append_assoc, List.nodup_append] at nd
    obtain ⟨G, B', w1, w2, w3, w4, w5⟩ := take_ok h4 he nd.2.1 q1
    refine ⟨F ++ G, B', ⟨v, us, F, G, rfl, rfl, h3, w1⟩, w2, ?_, fun a ha => ?_, w5⟩
    · rw [List.append_assoc, List.nodup_append]
      exact ⟨nd.1, w3, fun a ha b hb => nd.2.2 a ha b (w4 b hb)⟩
    · rw [List.append_assoc] at ha ⊢
      exact (List.mem_append.mp ha).elim (List.mem_append_left _) fun z => List.mem_append_right _ (w4 a z)
  | .inr i :: r, _, T, A, e, e', ds, ⟨v, us, h1, h2, h3⟩, he, nd, q => by
    subst h1
    unfold takeA at q
    split at q
    · rename_i p hp
      obtain ⟨⟨ds', e1⟩, q1, q2⟩ := Option.map_eq_some_iff.mp q
      cases q2
      obtain ⟨G, B', w1, w2, w3, w4, w5⟩ := take_ok h3 he nd q1
      obtain ⟨v', F, z1, z2, _⟩ := he.get hp
      rw [h2] at z1
      cases z1
      exact ⟨[] ++ G, B', ⟨v, us, [], G, rfl, rfl, ⟨z2.1, rfl⟩, w1⟩, w2, w3, w4, w5⟩
    · rename_i d _ hp
      obtain ⟨⟨ds', e1⟩, q1, q2⟩ := Option.map_eq_some_iff.mp q
      cases q2
      rw [List.nodup_append] at nd
      obtain ⟨v', F, C, z1, z2, z3, z4, z5⟩ := he.out hp nd.2.1
      rw [h2] at z1
      cases z1
      have ndC : (T ++ C).Nodup := by
        rw [List.nodup_append]
        rw [List.nodup_append] at z4
        exact ⟨nd.1, z4.2.1, fun a ha b hb => nd.2.2 a ha b (z5 b (List.mem_append_right _ hb))⟩
      obtain ⟨G, B', w1, w2, w3, w4, w5⟩ := take_ok h3 z3 ndC q1
      refine ⟨F ++ G, B', ⟨v, us, F, G, rfl, rfl, z2, w1⟩, w2, ?_, fun a ha => ?_, by rw [w5]; simp⟩
      · rw [List.append_assoc, List.nodup_append]
        rw [List.nodup_append] at z4
        refine ⟨z4.1, w3, fun a ha b hb e => ?_⟩
        subst e
        rcases List.mem_append.mp (w4 a hb) with z | z
        · exact nd.2.2 a z a (z5 a (List.mem_append_left _ ha)) rfl
        · exact z4.2.2 a ha a z rfl
      · rw [List.append_assoc] at ha
        rcases List.mem_append.mp ha with z | z
        · exact List.mem_append_right _ (z5 a (List.mem_append_left _ z))
        · rcases List.mem_append.mp (w4 a z) with z | z
          · exact List.mem_append_left _ z
          · exact List.mem_append_right _ (z5 a (List.mem_append_right _ z))
    · cases q
/-- what comes back -/
theorem put_ok : ∀ {as : List (D ⊕ Nat)} {vs : List V} {T G B : List Addr} {e : En} {ds : List D}, Ra K Z H σ as vs T → ∀ {H2 Z2 : Hp}, RDs K Z2 H2 ds vs G → Re K Z2 H2 e σ B → (G ++ B).Nodup →
    ∃ A', Re K Z2 H2 (putA as ds e) σ A' ∧ A'.Nodup ∧ ∀ a ∈ A', a ∈ G ++ B
  | [], _, _, G, B, e, ds, h, H2, Z2, hd, he, nd => by
    rw [List.nodup_append] at nd
    exact ⟨B, by unfold putA; exact he, nd.2.1, fun a ha => List.mem_append_right _ ha⟩
  | .inl _ :: r, _, _, G, B, e, [], ⟨v, us, F, B', h1, h2, h3, h4⟩, H2, Z2, hd, he, nd => by
    rw [h1] at hd
    cases hd.1
  | .inr _ :: r, _, _, G, B, e, [], ⟨v, us, h1, h2, h3⟩, H2, Z2, hd, he, nd => by
    rw [h1] at hd
    cases hd.1
  | .inl _ :: r, _, _, G, B, e, d :: ds, ⟨v, us, F, B', h1, h2, h3, h4⟩, H2, Z2, ⟨v2, us2, F2, G2, g1, g2, g3, g4⟩, he, nd => by
    rw [h1] at g1
    cases g1
    subst g2
    rw [List.append_assoc, List.nodup_append] at nd
    obtain ⟨A', w1, w2, w3⟩ := put_ok h4 g4 he nd.2.1
    exact ⟨A', w1, w2, fun a ha => by rw [List.append_assoc]; exact List.mem_append_right _ (w3 a ha)⟩
  | .inr i :: r, _, _, G, B, e, d :: ds, ⟨v, us, h1, h2, h3⟩, H2, Z2, ⟨v2, us2, F2, G2, g1, g2, g3, g4⟩, he, nd => by
    rw [h1] at g1
    cases g1
    subst g2
    have hi : i < e.length := by
      rw [he.len]
      exact (List.getElem?_eq_some_iff.mp h2).1
    rw [List.append_assoc, List.nodup_append] at nd
    have nd2 : (F2 ++ B).Nodup := by
      rw [List.nodup_append]
      have n2 := nd.2.1
      rw [List.nodup_append] at n2
      exact ⟨nd.1, n2.2.1, fun a ha b hb => nd.2.2 a ha b (List.mem_append_right _ hb)⟩
    obtain ⟨B', w1, w2, w3⟩ := he.set g3 nd2 hi
    rw [set_same h2] at w1
    have nd3 : (G2 ++ B').Nodup := by
      rw [List.nodup_append]
      have n2 := nd.2.1
      rw [List.nodup_append] at n2
      refine ⟨n2.1, w2, fun a ha b hb e => ?_⟩
      subst e
      rcases w3 a hb with z | z
      · exact nd.2.2 a z a (List.mem_append_left _ ha) rfl
      · exact n2.2.2 a ha a z rfl
    obtain ⟨A', x1, x2, x3⟩ := put_ok h3 g4 w1 nd3
    refine ⟨A', x1, x2, fun a ha => ?_⟩
    rw [List.append_assoc]
    rcases List.mem_append.mp (x3 a ha) with z | z
    · exact List.mem_append_right _ (List.mem_append_left _ z)
    · rcases w3 a z with z | z
      · exact List.mem_append_left _ z
      · exact List.mem_append_right _ (List.mem_append_right _ z)
end

/-! ### what a def promises, by data -/
abbrev Fn := List D → Option (D × List D)
def spV (K : PySem.W.Frag) (fn : Fn) : Sp := fun vs H Q _ => ∃ (Z : Hp) (ds : List D) (G : List Addr) (r : D) (ds' : List D), Same Z H ∧ RDs K Z H ds vs G ∧ G.Nodup ∧ (∀ a ∈ G, Z a = none) ∧ fn ds = some (r, ds') ∧
  ∀ Z' H' v G' F, Stp G Z H Z' H' → RDs K Z' H' ds' vs G' → RD K Z' H' r v F → (F ++ G').Nodup → (∀ a ∈ F ++ G', Z' a = none) → Sub G H (F ++ G') → Q v H'
def EvA (K : PySem.W.Frag) (t : TA) (as : List Ar) : Prop := ∀ ⦃σ : L2.St⦄ ⦃H Z : Hp⦄ ⦃e e' : En⦄ ⦃A : List Addr⦄ ⦃l : List (D ⊕ Nat)⦄ (Q : List V → Hp → Prop), Ok K Z H σ e A → evA as e = some (l, e') →
  (∀ Z' H' vs A' T, Stp A Z H Z' H' → Ok K Z' H' σ e' A' → Ra K Z' H' σ l vs T → (T ++ A').Nodup → (∀ a ∈ T, Z' a = none) → Sub A H (T ++ A') → Q vs H') → t σ H Q
structure VA (X : Cx) (xs : List Expr) (as : List Ar) : Prop where
  out : ∃ t, PA X xs t ∧ EvA X.K t as
def dCall (fn : Fn) (as : List Ar) : ED := fun e => (evA as e).bind fun l => (takeA l.1 l.2).bind fun q => (fn q.1).map fun r => (r.1, putA l.1 r.2 q.2)
section
variable {X : Cx} {x : Expr} {xs : List Expr} {f : ED} {as : List Ar} {pos : Pos}
theorem va_nil : VA X [] [] := ⟨_, pa_nil, fun σ H Z e e' A l Q o q k => by
  cases q
  exact k Z H [] A [] (Ex.refl o.zh).stp o ⟨rfl, rfl⟩ o.nd (fun _ z => nomatch z) .refl⟩
theorem va_lend (i : Nat) {y : Str} (h : PE X (.Name y pos) (tVar i)) (hs : VA X xs as) (hx : starEach (.Name y pos :: xs) X.env = (false, eval (.Name y pos) X.env) :: starEach xs X.env := by rfl) : VA X (.Name y pos :: xs) (.lend i :: as) := by
  obtain ⟨u, h3, h4⟩ := hs.out
  refine ⟨_, pa_cons h h3 hx, fun σ H Z e e' A l Q o q k => ?_⟩
  unfold evA at q
  split at q
  · rename_i d hd
    obtain ⟨⟨l', e1⟩, q1, q2⟩ := Option.map_eq_some_iff.mp q
    cases q2
    obtain ⟨v, F, hv, _, _⟩ := o.re.get hd
    refine ⟨v, hv, h4 _ o q1 fun Z1 H1 vs A1 T s1 o1 r1 n1 f1 b1 => ?_⟩
    exact k Z1 H1 _ A1 T s1 o1 ⟨v, vs, rfl, hv, r1⟩ n1 f1 b1
  · cases q
theorem va_val (h : VD X x f) (hs : VA X xs as) (hx : starEach (x :: xs) X.env = (false, eval x X.env) :: starEach xs X.env := by rfl) : VA X (x :: xs) (.val f :: as) := by
  obtain ⟨t, h1, h2⟩ := h.out
  obtain ⟨u, h3, h4⟩ := hs.out
  refine ⟨_, pa_cons h1 h3 hx, fun σ H Z e e' A l Q o q k => ?_⟩
  obtain ⟨⟨d, e1⟩, q1, q2⟩ := Option.bind_eq_some_iff.mp (show (f e).bind _ = _ from q)
  obtain ⟨⟨l', e2⟩, q3, q4⟩ := Option.map_eq_some_iff.mp q2
  cases q4
  refine h2 _ o q1 fun Z1 H1 v A1 F s1 o1 r1 n1 f1 b1 => h4 _ o1 q3 fun Z2 H2 vs A2 T s2 o2 r2 n2 f2 b2 => ?_
  have bA : Sub A H A1 := fun a ha => b1 a (List.mem_append_right _ ha)
  have thF : ∀ a ∈ F, ∃ o, H1 a = some o := RD.there d v F r1
  have nF : ∀ a ∈ F, a ∉ A1 := fun a ha hb => by
    rw [List.nodup_append] at n1
    exact n1.2.2 a ha a hb rfl
  have r1' : RD X.K Z2 H2 d v F := RD.mono s2.z d v F (fun a ha ob e => s2.keep a ob e (nF a ha)) r1
  refine k Z2 H2 _ A2 (F ++ T) (s1.trans bA s2) o2 ⟨v, vs, F, T, rfl, rfl, r1', r2⟩ ?_ ?_ ?_
  · rw [List.append_assoc, List.nodup_append]
    rw [List.nodup_append] at n1
    refine ⟨n1.1, n2, fun a ha b hb e => ?_⟩
    subst e
    rcases b2 a hb with z | z
    · exact n1.2.2 a ha a z rfl
    · obtain ⟨w, hw⟩ := thF a ha
      rw [hw] at z; cases z
  · intro a ha
    rcases List.mem_append.mp ha with z | z
    · cases q : Z2 a with
      | none => rfl
      | some u =>
        rcases s2.new a u q with w | w | w
        · rw [f1 a z] at w; cases w
        · exact absurd w (nF a z)
        · exact absurd w (RD.noA d v F r1 a z)
    · exact f2 a z
  · intro a ha
    rw [List.append_assoc] at ha
    rcases List.mem_append.mp ha with z | z
    · exact b1 a (List.mem_append_left _ z)
    · exact Sub.trans s1 bA b2 a z
end
end VL
end

section
set_option Elab.async false
set_option linter.all false
set_option maxRecDepth 100000
namespace VL
open PySem PySem.Spec L2

/-- behind a call: what stays, what comes back -/
theorem after_call {K : PySem.W.Frag} {Z0 H0 Z H Z' H' : Hp} {σ : L2.St} {e : En} {as : List (D ⊕ Nat)} {vs : List V} {T A0 A G B G' F : List Addr} {ds' : List D} {r : D} {v : V} (s0 : Stp A0 Z0 H0 Z H) (o : Ok K Z H σ e A) (ra : Ra K Z H σ as vs T) (b0 : Sub A0 H0 (T ++ A)) (offT : ∀ a ∈ T, Z a = none)
    {e2 : En} (he : Re K Z H e2 σ B) (nd : (G ++ B).Nodup) (hs : ∀ a ∈ G ++ B, a ∈ T ++ A) (st : Stp G Z H Z' H') (rd : RDs K Z' H' ds' vs G') (rr : RD K Z' H' r v F) (nd2 : (F ++ G').Nodup) (off : ∀ a ∈ F ++ G', Z' a = none) (sb : Sub G H (F ++ G')) :
    ∃ A', Stp A0 Z0 H0 Z' H' ∧ Ok K Z' H' σ (putA as ds' e2) A' ∧ (F ++ A').Nodup ∧ (∀ a ∈ F, Z' a = none) ∧ Sub A0 H0 (F ++ A') := by
  have ndGB := nd
  rw [List.nodup_append] at nd
  have there : ∀ a ∈ B, ∃ o, H a = some o := Re.there e2 σ B he
  have he' : Re K Z' H' e2 σ B := Re.mono st.z e2 σ B (fun a ha ob q => st.keep a ob q fun z => nd.2.2 a z a ha rfl) he
  have apart : ∀ a, a ∈ F ++ G' → a ∉ B := fun a ha hb => by
    rcases sb a ha with z | z
    · exact nd.2.2 a z a hb rfl
    · obtain ⟨w, hw⟩ := there a hb
      rw [hw] at z; cases z
  rw [List.nodup_append] at nd2
  have nd3 : (G' ++ B).Nodup := by
    rw [List.nodup_append]
    exact ⟨nd2.2.1, nd.2.1, fun a ha b hb q => apart a (List.mem_append_right _ ha) (q ▸ hb)⟩
  obtain ⟨A', w1, w2, w3⟩ := put_ok ra rd he' nd3
  have subG : Sub A0 H0 G := fun a ha => b0 a (hs a (List.mem_append_left _ ha))
  have stp : Stp A0 Z0 H0 Z' H' := s0.trans subG st
  have offB : ∀ a ∈ B, Z' a = none := fun a ha => by
    cases q : Z' a with
    | none => rfl
    | some u =>
      rcases st.new a u q with w | w | w
      · rcases List.mem_append.mp (hs a (List.mem_append_right _ ha)) with z | z
        · rw [offT a z] at w; cases w
        · rw [o.off a z] at w; cases w
      · exact absurd rfl (nd.2.2 a w a ha)
      · exact absurd w (Re.noA e2 σ B he a ha)
  refine ⟨A', stp, ⟨st.zh, w1, w2, fun a ha => ?_⟩, ?_, fun a ha => off a (List.mem_append_left _ ha), fun a ha => ?_⟩
  · rcases List.mem_append.mp (w3 a ha) with z | z
    · exact off a (List.mem_append_right _ z)
    · exact offB a z
  · rw [List.nodup_append]
    refine ⟨nd2.1, w2, fun a ha b hb q => ?_⟩
    subst q
    rcases List.mem_append.mp (w3 a hb) with z | z
    · exact nd2.2.2 a ha a z rfl
    · exact apart a (List.mem_append_left _ ha) z
  · have big : a ∈ F ++ G' ∨ a ∈ B := by
      rcases List.mem_append.mp ha with z | z
      · exact .inl (List.mem_append_left _ z)
      · exact (List.mem_append.mp (w3 a z)).imp (List.mem_append_right _) id
    rcases big with z | z
    · exact Sub.trans s0 subG sb a z
    · exact b0 a (hs a (List.mem_append_right _ z))
section
variable {X : Cx} {k : Nat} {f C : Addr} {fd : FuncData} {ps : List Str} {fn : Fn} {nm m : Str} {p pos apos : Pos} {x o : Expr} {xs : List Expr} {as : List Ar}
theorem EvD.call {K : PySem.W.Frag} {t : TA} {E : XK} (h : EvA K t as) : EvD K (tCall (spV K fn) [] E t) (dCall fn as) := fun σ H Z e e' A d Q o q k => by
  unfold dCall at q
  obtain ⟨⟨l, e1⟩, q1, q⟩ := Option.bind_eq_some_iff.mp q
  obtain ⟨⟨ds, e2⟩, q2, q⟩ := Option.bind_eq_some_iff.mp q
  obtain ⟨⟨r, ds'⟩, q3, q⟩ := Option.map_eq_some_iff.mp q
  cases q
  refine h _ o q1 fun Z1 H1 vs A1 T s1 o1 r1 n1 f1 b1 => ?_
  obtain ⟨G, B, w1, w2, w3, w4, w5⟩ := take_ok r1 o1.re n1 q2
  rw [List.append_nil]
  have w3' := w3
  rw [List.nodup_append] at w3'
  have offG : ∀ a ∈ G, Z1 a = none := fun a ha => (List.mem_append.mp (w4 a (List.mem_append_left _ ha))).elim (f1 a) (o1.off a)
  refine ⟨Z1, ds, G, r, ds', o1.zh, w1, w3'.1, offG, q3, fun Z' H' v G' F st rd rr nd2 off sb => ?_⟩
  obtain ⟨A', y1, y2, y3, y4, y5⟩ := after_call s1 o1 r1 b1 f1 w2 w3 w4 st rd rr nd2 off sb
  exact k Z' H' v A' F y1 y2 rr y3 y4 y5
/-- f(..) -/
theorem vd_call (F : FnOk X.prog X.w X.K X.mg X.base CX0 k f fd ps (spV X.K fn)) (hr : Room k X.A) (hg : Gl X nm) (hm : X.mg nm = some (.ref f)) (hk : PySem.W.keepIn X.K (.ref f) = true) (hb : Binds X.K fd ps [])
    (ha : VA X (x :: xs) as) (hdb : (nm == ("__debug__" : Str)) = false := by decide) (he : starEach (x :: xs) X.env = (false, eval x X.env) :: starEach xs X.env := by rfl) (hpl : (backTo pos (starEach xs X.env)).any (·.1) = false := by rfl) :
    VD X (.Call (.Name nm p) (x :: xs) [] pos) (dCall fn as) := by
  obtain ⟨t, h1, h2⟩ := ha.out
  exact ⟨_, pe_call F hr hg hm hk hb .nil pass0 h1 hdb he hpl, EvD.call h2⟩
theorem vd_call0 (F : FnOk X.prog X.w X.K X.mg X.base CX0 k f fd ps (spV X.K fn)) (hr : Room k X.A) (hg : Gl X nm) (hm : X.mg nm = some (.ref f)) (hk : PySem.W.keepIn X.K (.ref f) = true) (hb : Binds X.K fd ps [])
    (hdb : (nm == ("__debug__" : Str)) = false := by decide) : VD X (.Call (.Name nm p) [] [] pos) (dCall fn []) := by
  obtain ⟨t, h1, h2⟩ := (va_nil (X := X)).out
  have hpa : EvA X.K tNil [] := fun σ H Z e e' A l Q o q k => by
    cases q
    exact k Z H [] A [] (Ex.refl o.zh).stp o ⟨rfl, rfl⟩ o.nd (fun _ z => nomatch z) .refl
  exact ⟨_, pe_call0 F hr hg hm hk hb .nil pass0 hdb, EvD.call hpa⟩
/-- the result is kept as data -/
def fD (f : ED) : EF := fun e => (f e).map fun q => (q.1.p, q.2)
end

/-! ### from what is alone held to data -/
section
variable {K : PySem.W.Frag}
/-- Z with all that F holds -/
def fz (Z H : Hp) (F : List Addr) : Hp := fun a => if a ∈ F then H a else Z a
theorem fz_same {Z H : Hp} {F : List Addr} (off : ∀ a ∈ F, Z a = none) : Same Z (fz Z H F) := fun a o q => by
  unfold fz
  by_cases h : a ∈ F
  · rw [off a h] at q; cases q
  · rw [if_neg h]; exact q
theorem fz_in {Z H : Hp} {F : List Addr} (s : Same Z H) : Same (fz Z H F) H := fun a o q => by
  unfold fz at q
  by_cases h : a ∈ F
  · rw [if_pos h] at q; exact q
  · rw [if_neg h] at q; exact s _ _ q
theorem fz_at {Z H : Hp} {F : List Addr} {a : Addr} {o : HO} (h : a ∈ F) (e : H a = some o) : fz Z H F a = some o := by
  unfold fz
  rw [if_pos h]; exact e
mutual
theorem RD.frz {Z H Z2 : Hp} (z : Same Z Z2) : ∀ (d : D) (v : V) (F : List Addr), (∀ a ∈ F, ∀ o, H a = some o → Z2 a = some o) → RD K Z H d v F → Rp K Z2 d.p v
  | .imm p, _, _, _, ⟨h1, _⟩ => Rp.mono z p _ h1
  | .lst l, _, _, k, ⟨a, vs, h1, h2, h3, h4⟩ => ⟨a, vs, h1, k a (by rw [h2]; exact List.mem_cons_self) _ h3, Rps.mono z l _ h4⟩
  | .dK _ l, _, _, k, ⟨a, vs, h1, h2, h3, h4, h5⟩ => ⟨a, vs, h1, Rd.of (k a (by rw [h2]; exact List.mem_cons_self) _ h3), h4, Rps.mono z l _ h5⟩
  | .dT _ l, _, _, k, ⟨a, vs, h1, h2, h3, h4, h5⟩ => ⟨a, vs, h1, Rd.of (k a (by rw [h2]; exact List.mem_cons_self) _ h3), h4, Rps.mono z l _ h5⟩
  | .obj _ _ l, _, _, k, ⟨a, dx, vs, B, h1, h2, h3, h4, h5⟩ => ⟨a, dx, vs, h1, k a (by rw [h2]; exact List.mem_cons_self) _ h3, h4, RDs.frz z l _ B (fun b hb => k b (by rw [h2]; exact List.mem_cons_of_mem _ hb)) h5⟩
theorem RDs.frz {Z H Z2 : Hp} (z : Same Z Z2) : ∀ (l : List D) (vs : List V) (F : List Addr), (∀ a ∈ F, ∀ o, H a = some o → Z2 a = some o) → RDs K Z H l vs F → Rps K Z2 (D.ps l) vs
  | [], _, _, _, h => h.1
  | d :: l, _, _, k, ⟨v, r, F, B, h1, h2, h3, h4⟩ => ⟨v, r, h1, RD.frz z d v F (fun b hb => k b (by rw [h2]; exact List.mem_append_left _ hb)) h3, RDs.frz z l r B (fun b hb => k b (by rw [h2]; exact List.mem_append_right _ hb)) h4⟩
end
/-- .. beside variables that stay -/
theorem Ok.frz {Z H : Hp} {σ : L2.St} {e : En} {A F : List Addr} {d : D} {v : V} (o : Ok K Z H σ e A) (h : RD K Z H d v F) (nd : (F ++ A).Nodup) (off : ∀ a ∈ F, Z a = none) :
    Ok K (fz Z H F) H σ e A ∧ Rp K (fz Z H F) d.p v := by
  have s := fz_same (H := H) off
  refine ⟨⟨fz_in o.zh, Re.mono s e σ A (fun _ _ _ q => q) o.re, o.nd, fun a ha => ?_⟩, RD.frz s d v F (fun a ha ob q => fz_at ha q) h⟩
  unfold fz
  rw [List.nodup_append] at nd
  rw [if_neg fun z => nd.2.2 a z a ha rfl]
  exact o.off a ha
theorem Stp.frz {A0 F : List Addr} {Z0 H0 Z H : Hp} (s : Stp A0 Z0 H0 Z H) (sb : Sub A0 H0 F) (off : ∀ a ∈ F, Z a = none) : Stp A0 Z0 H0 (fz Z H F) H :=
  ⟨s.z.trans (fz_same off), fz_in s.zh, s.keep, fun a o q => by
    unfold fz at q
    by_cases h : a ∈ F
    · exact (sb a h).elim (fun z => .inr (.inl z)) fun z => .inr (.inr (.inl z))
    · rw [if_neg h] at q; exact s.new a o q⟩
end
theorem VD.toF {X : Cx} {x : Expr} {f : ED} (h : VD X x f) : VF X x (fD f) := by
  obtain ⟨t, h1, h2⟩ := h.out
  refine ⟨t, h1, fun σ H Z e e' A p Q o q k => ?_⟩
  unfold fD at q
  obtain ⟨⟨d, e1⟩, q1, q2⟩ := Option.map_eq_some_iff.mp q
  cases q2
  refine h2 Q o q1 fun Z' H' v A' F s o' r nd off sb => ?_
  obtain ⟨w1, w2⟩ := o'.frz r nd off
  exact k _ H' v A' (s.frz (fun a ha => sb a (List.mem_append_left _ ha)) off) w1 (fun a ha => sb a (List.mem_append_right _ ha)) w2
/-- a variable, kept as data from now on -/
def fV (i : Nat) : EF := fun e => match e[i]? with
  | some (some d) => some (d.p, e.set i (some (.imm d.p)))
  | _ => none
theorem vf_var {X : Cx} {pos : Pos} (i : Nat) {y : Str} (h : PE X (.Name y pos) (tVar i)) : VF X (.Name y pos) (fV i) := by
  refine ⟨_, h, fun σ H Z e e' A p Q o q k => ?_⟩
  unfold fV at q
  split at q
  · rename_i d hd
    cases q
    obtain ⟨v, F, B, q1, q2, q3, q4, q5⟩ := o.re.out hd o.nd
    have offF : ∀ a ∈ F, Z a = none := fun a ha => o.off a (q5 a (List.mem_append_left _ ha))
    have o1 : Ok X.K Z H σ (e.set i none) B := ⟨o.zh, q3, by rw [List.nodup_append] at q4; exact q4.2.1, fun a ha => o.off a (q5 a (List.mem_append_right _ ha))⟩
    obtain ⟨w1, w2⟩ := o1.frz q2 q4 offF
    have hi : i < (e.set i none).length := by
      rw [List.length_set]
      exact (List.getElem?_eq_some_iff.mp hd).1
    obtain ⟨A', y1, y2⟩ := w1.set (i := i) (F := []) (d := .imm d.p) (v := v) ⟨w2, rfl⟩ w1.nd (fun _ z => nomatch z) hi
    rw [set_same q1, List.set_set] at y1
    refine ⟨v, q1, k _ H v A' ((Ex.refl o.zh).stp.frz (fun a ha => .inl (q5 a (List.mem_append_left _ ha))) offF) y1 (fun a ha => .inl (q5 a (List.mem_append_right _ (y2 a ha)))) w2⟩
  · cases q
end VL
end

section
set_option Elab.async false
set_option linter.all false
set_option maxRecDepth 100000
namespace VL
open PySem PySem.Spec L2

/-! ### places: a variable, a field of what a place holds -/
inductive Pl where
  | v (i : Nat) | f (p : Pl) (c f : Str)
/-- the field's place among the names -/
def ixF (f : Str) : List Str → Option Nat
  | [] => none
  | g :: fs => if g = f then some 0 else (ixF f fs).map (· + 1)
def D.fld (c f : Str) : D → Option D
  | .obj c' fs l => if c' = c then (ixF f fs).bind fun j => l[j]? else none
  | .imm (.obj c' fs l) => if c' = c then (ixF f fs).bind fun j => (l[j]?).map .imm else none
  | _ => none
def D.setF (f : Str) (d : D) : D → D
  | .obj c fs l => match ixF f fs with
    | some j => .obj c fs (l.set j d)
    | none => .obj c fs l
  | d0 => d0
def getPl : Pl → En → Option D
  | .v i, e => match e[i]? with
    | some (some d) => some d
    | _ => none
  | .f p c f, e => (getPl p e).bind (D.fld c f)
def setPl : Pl → D → En → En
  | .v i, d, e => e.set i (some d)
  | .f p c f, d, e => match getPl p e with
    | some d0 => setPl p (D.setF f d d0) e
    | none => e
section
variable (K : PySem.W.Frag) (H : Hp) (σ : L2.St)
def PlAt : Pl → V → Prop
  | .v i, v => σ[i]? = some (some v)
  | .f p c f, v => ∃ a dx vfs, PlAt p (.ref a) ∧ H a = some (.ins (He.ga K c) dx vfs) ∧ vfs.lookup f = some v
end
section
variable {K : PySem.W.Frag} {Z H : Hp}
theorem lookup_ix {α : Type} (f : Str) : ∀ (l : List (Str × α)), l.lookup f = (ixF f (l.map (·.1))).bind fun j => (l.map (·.2))[j]?
  | [] => rfl
  | (g, x) :: l => by
    rw [List.lookup_cons, List.map_cons, List.map_cons]
    unfold ixF
    by_cases q : g = f
    · subst q
      simp
    · have hb : (f == g) = false := beq_eq_false_iff_ne.mpr fun e => q e.symm
      simp only [hb]
      rw [lookup_ix f l]
      show _ = (if g = f then some 0 else (ixF f (l.map (·.1))).map (· + 1)).bind _
      rw [if_neg q]
      cases ixF f (l.map (·.1)) <;> simp
theorem RDs.focus : ∀ {l : List D} {vs : List V} {F : List Addr} {j : Nat} {d0 : D}, RDs K Z H l vs F → l[j]? = some d0 → F.Nodup →
    ∃ v0 F0, vs[j]? = some v0 ∧ RD K Z H d0 v0 F0 ∧ (∀ a ∈ F0, a ∈ F) ∧ F0.Nodup ∧ ∀ (Z' H' : Hp) (d1 : D) (F1 : List Addr), Same Z Z' → (∀ a ∈ F, a ∉ F0 → ∀ o, H a = some o → H' a = some o) → RD K Z' H' d1 v0 F1 → F1.Nodup → (∀ a ∈ F1, a ∈ F0 ∨ a ∉ F) →
      ∃ F', RDs K Z' H' (l.set j d1) vs F' ∧ F'.Nodup ∧ ∀ a ∈ F', a ∈ F1 ∨ (a ∈ F ∧ a ∉ F0)
  | [], _, _, _, _, _, q, _ => by simp at q
  | d :: l, _, _, 0, d0, ⟨v, r, F, B, h1, h2, h3, h4⟩, q, nd => by
    simp at q
    subst q
    subst h2
    have nd' := nd
    rw [List.nodup_append] at nd
    refine ⟨v, F, by rw [h1]; rfl, h3, fun a ha => List.mem_append_left _ ha, nd.1, fun Z' H' d1 F1 z k hd n1 s1 => ?_⟩
    have nB : ∀ a ∈ B, a ∉ F := fun a ha hf => nd.2.2 a hf a ha rfl
    refine ⟨F1 ++ B, ⟨v, r, F1, B, h1, rfl, hd, RDs.mono z l r B (fun a ha => k a (List.mem_append_right _ ha) (nB a ha)) h4⟩, ?_, fun a ha => ?_⟩
    · rw [List.nodup_append]
      refine ⟨n1, nd.2.1, fun a ha b hb e => ?_⟩
      subst e
      rcases s1 a ha with w | w
      · exact nB a hb w
      · exact w (List.mem_append_right _ hb)
    · rcases List.mem_append.mp ha with w | w
      · exact .inl w
      · exact .inr ⟨List.mem_append_right _ w, nB a w⟩
  | d :: l, _, _, j + 1, d0, ⟨v, r, F, B, h1, h2, h3, h4⟩, q, nd => by
    subst h2
    rw [List.nodup_append] at nd
    obtain ⟨v0, F0, q1, q2, q3, q4, q5⟩ := RDs.focus (j := j) h4 (by simpa using q) nd.2.1
    refine ⟨v0, F0, by rw [h1]; simpa using q1, q2, fun a ha => List.mem_append_right _ (q3 a ha), q4, fun Z' H' d1 F1 z k hd n1 s1 => ?_⟩
    obtain ⟨F', w1, w2, w3⟩ := q5 Z' H' d1 F1 z (fun a ha hn => k a (List.mem_append_right _ ha) hn) hd n1 fun a ha => (s1 a ha).imp id fun w hb => w (List.mem_append_right _ hb)
    have nF0 : ∀ a ∈ F, a ∉ F0 := fun a ha hf => nd.2.2 a ha a (q3 a hf) rfl
    refine ⟨F ++ F', ⟨v, r, F, F', h1, rfl, RD.mono z d v F (fun a ha => k a (List.mem_append_left _ ha) (nF0 a ha)) h3, w1⟩, ?_, fun a ha => ?_⟩
    · rw [List.nodup_append]
      refine ⟨nd.1, w2, fun a ha b hb e => ?_⟩
      subst e
      rcases w3 a hb with w | w
      · rcases s1 a w with y | y
        · exact nF0 a ha y
        · exact y (List.mem_append_left _ ha)
      · exact nd.2.2 a ha a w.1 rfl
    · rcases List.mem_append.mp ha with w | w
      · exact .inr ⟨List.mem_append_left _ w, nF0 a w⟩
      · exact (w3 a w).imp id fun y => ⟨List.mem_append_right _ y.1, y.2⟩
theorem fld_imm {c f : Str} {q : P} {d : D} (h : D.fld c f (.imm q) = some d) : ∃ p, d = .imm p := by
  cases q with
  | obj c' fs l =>
    have h' : (if c' = c then (ixF f fs).bind fun j => (l[j]?).map D.imm else none) = some d := h
    split at h'
    · obtain ⟨j, z1, z2⟩ := Option.bind_eq_some_iff.mp h'
      obtain ⟨z, z3, z4⟩ := Option.map_eq_some_iff.mp z2
      exact ⟨z, z4.symm⟩
    · cases h'
  | _ => cases h
/-- a place, seen by itself: what stands there may become another thing, all else staying -/
theorem focus {σ : L2.St} : ∀ {pl : Pl} {e : En} {A : List Addr} {d0 : D}, Re K Z H e σ A → getPl pl e = some d0 → A.Nodup → Same Z H →
    ∃ v0 F0, PlAt K H σ pl v0 ∧ RD K Z H d0 v0 F0 ∧ (∀ a ∈ F0, a ∈ A) ∧ F0.Nodup ∧ ((∃ p c f q, pl = .f p c f ∧ getPl p e = some (.imm q)) ∨
      ∀ (Z' H' : Hp) (d1 : D) (F1 : List Addr), Same Z Z' → (∀ a ∈ A, a ∉ F0 → ∀ o, H a = some o → H' a = some o) → RD K Z' H' d1 v0 F1 → F1.Nodup → (∀ a ∈ F1, a ∈ F0 ∨ a ∉ A) →
      ∃ A', Re K Z' H' (setPl pl d1 e) σ A' ∧ A'.Nodup ∧ ∀ a ∈ A', a ∈ F1 ∨ (a ∈ A ∧ a ∉ F0))
  | .v i, e, A, d0, he, q, nd, s => by
    have q' : e[i]? = some (some d0) := by
      unfold getPl at q
      split at q
      · cases q; assumption
      · cases q
    obtain ⟨v, F, B, q1, q2, q3, q4, q5⟩ := he.out q' nd
    have q4' := q4
    rw [List.nodup_append] at q4'
    refine ⟨v, F, q1, q2, fun a ha => q5 a (List.mem_append_left _ ha), q4'.1, .inr fun Z' H' d1 F1 z k hd n1 s1 => ?_⟩
    have nB : ∀ a ∈ B, a ∉ F := fun a ha hf => q4'.2.2 a hf a ha rfl
    have hB : Re K Z' H' (e.set i none) σ B := Re.mono z _ σ B (fun a ha => k a (q5 a (List.mem_append_right _ ha)) (nB a ha)) q3
    have hi : i < (e.set i none).length := by
      rw [List.length_set]
      exact (List.getElem?_eq_some_iff.mp q').1
    have n2 : (F1 ++ B).Nodup := by
      rw [List.nodup_append]
      refine ⟨n1, q4'.2.1, fun a ha b hb e => ?_⟩
      subst e
      rcases s1 a ha with w | w
      · exact nB a hb w
      · exact w (q5 a (List.mem_append_right _ hb))
    obtain ⟨A', w1, w2, w3⟩ := hB.set hd n2 hi
    rw [set_same q1, List.set_set] at w1
    exact ⟨A', w1, w2, fun a ha => (w3 a ha).imp id fun w => ⟨q5 a (List.mem_append_right _ w), nB a w⟩⟩
  | .f p c f, e, A, d0, he, q, nd, s => by
    obtain ⟨dp, q1, q2⟩ := Option.bind_eq_some_iff.mp (show (getPl p e).bind (D.fld c f) = some d0 from q)
    obtain ⟨vp, Fp, w1, w2, w3, w4, w5⟩ := focus he q1 nd s
    cases dp with
    | obj c' fs l =>
      unfold D.fld at q2
      dsimp only at q2
      split at q2
      · rename_i hc
        subst hc
        obtain ⟨j, q3, q4⟩ := Option.bind_eq_some_iff.mp q2
        obtain ⟨a, dx, vfs, B, y1, y2, y3, y4, y5⟩ := w2
        subst y1
        subst y2
        subst y4
        rw [List.nodup_cons] at w4
        obtain ⟨v0, F0, g1, g2, g3, g4, g5⟩ := y5.focus q4 w4.2
        refine ⟨v0, F0, ⟨a, dx, vfs, w1, y3, by rw [lookup_ix, q3]; exact g1⟩, g2, fun b hb => w3 b (List.mem_cons_of_mem _ (g3 b hb)), g4, ?_⟩
        rcases w5 with ⟨p2, c2, f2, qq, e1, e2⟩ | w5
        · subst e1
          unfold getPl at q1
          rw [e2] at q1
          obtain ⟨zz, hz⟩ := fld_imm (show D.fld c2 f2 (.imm qq) = some _ from q1)
          cases hz
        · refine .inr fun Z' H' d1 F1 z k hd n1 s1 => ?_
          have na : a ∉ F0 := fun h => w4.1 (g3 a h)
          obtain ⟨B', x1, x2, x3⟩ := g5 Z' H' d1 F1 z (fun b hb hn => k b (w3 b (List.mem_cons_of_mem _ hb)) hn) hd n1 fun b hb => (s1 b hb).imp id fun w hB => w (w3 b (List.mem_cons_of_mem _ hB))
          have na' : a ∉ B' := fun h => by
            rcases x3 a h with w | w
            · rcases s1 a w with y | y
              · exact na y
              · exact y (w3 a List.mem_cons_self)
            · exact w4.1 w.1
          have hobj : RD K Z' H' (.obj c' (vfs.map (·.1)) (l.set j d1)) (.ref a) (a :: B') := ⟨a, dx, vfs, B', rfl, rfl, k a (w3 a List.mem_cons_self) na _ y3, rfl, x1⟩
          obtain ⟨A', z1, z2, z3⟩ := w5 Z' H' (.obj c' (vfs.map (·.1)) (l.set j d1)) (a :: B') z (fun b hb hn => k b hb fun h => hn (List.mem_cons_of_mem _ (g3 b h))) hobj (List.nodup_cons.mpr ⟨na', x2⟩) fun b hb => by
            rcases List.mem_cons.mp hb with w | w
            · rw [w]; exact .inl List.mem_cons_self
            · rcases x3 b w with y | y
              · exact (s1 b y).imp (fun h => List.mem_cons_of_mem _ (g3 b h)) id
              · exact .inl (List.mem_cons_of_mem _ y.1)
          refine ⟨A', ?_, z2, fun b hb => ?_⟩
          · show Re K Z' H' (match getPl p e with
              | some d0 => setPl p (D.setF f d1 d0) e
              | none => e) σ A'
            rw [q1]
            show Re K Z' H' (setPl p (D.setF f d1 (.obj c' (vfs.map (·.1)) l)) e) σ A'
            unfold D.setF
            dsimp only
            rw [q3]
            exact z1
          · rcases z3 b hb with w | w
            · rcases List.mem_cons.mp w with y | y
              · rw [y]; exact .inr ⟨w3 a List.mem_cons_self, na⟩
              · rcases x3 b y with x | x
                · exact .inl x
                · exact .inr ⟨w3 b (List.mem_cons_of_mem _ x.1), x.2⟩
            · exact .inr ⟨w.1, fun h => w.2 (List.mem_cons_of_mem _ (g3 b h))⟩
      · cases q2
    | imm q =>
      cases q with
      | obj c' fs l =>
        have q2' : (if c' = c then (ixF f fs).bind fun j => (l[j]?).map D.imm else none) = some d0 := q2
        split at q2'
        · rename_i hc
          subst hc
          obtain ⟨j, q3, q4⟩ := Option.bind_eq_some_iff.mp q2'
          obtain ⟨z, q5, q6⟩ := Option.map_eq_some_iff.mp q4
          subst q6
          obtain ⟨⟨a, dx, vfs, y1, y2, y3, y4⟩, _⟩ := w2
          subst y1
          subst y3
          obtain ⟨u, g1, g2⟩ := y4.get q5
          exact ⟨u, [], ⟨a, dx, vfs, w1, s _ _ y2, by rw [lookup_ix, q3]; exact g1⟩, ⟨g2, rfl⟩, (fun _ h => nomatch h), List.nodup_nil, .inl ⟨p, c', f, _, rfl, q1⟩⟩
        · cases q2'
      | _ => cases q2
    | _ => cases q2
end
end VL
end

section
set_option Elab.async false
set_option linter.all false
set_option maxRecDepth 100000
namespace VL
open PySem PySem.Spec L2

/-! ### tests -/
abbrev ET := En → Option (Bool × En)
def EvT (K : PySem.W.Frag) (t : TT) (f : ET) : Prop := ∀ ⦃σ : L2.St⦄ ⦃H Z : Hp⦄ ⦃e e' : En⦄ ⦃A : List Addr⦄ ⦃b : Bool⦄ (Q : Bool → Hp → Prop), Ok K Z H σ e A → f e = some (b, e') →
  (∀ Z' H' A', Stp A Z H Z' H' → Ok K Z' H' σ e' A' → Sub A H A' → Q b H') → t σ H Q
structure VT (X : Cx) (x : Expr) (f : ET) : Prop where
  out : ∃ t, PT X x t ∧ EvT X.K t f
structure VW (X : Cx) (x : Expr) (f : ET) : Prop where
  out : ∃ t, PW X x t ∧ EvT X.K t f
def P.b : P → Option Bool
  | .bl b => some b
  | _ => none
/-- a bool, as a test -/
def tQ (f : EQ) : ET := fun e => (f e).bind fun p => p.b.map fun b => (b, e)
def tF (f : EF) : ET := fun e => (f e).bind fun p => p.1.b.map fun b => (b, p.2)
theorem EvT.ofQ {K : PySem.W.Frag} {t : TE} {f : EQ} (h : EvQ K t f) : EvT K (tTest t) (tQ f) := fun σ H Z e e' A b Q o q k => by
  unfold tQ at q
  obtain ⟨p, q1, q2⟩ := Option.bind_eq_some_iff.mp q
  obtain ⟨b', q3, q4⟩ := Option.map_eq_some_iff.mp q2
  cases q4
  refine h _ o q1 fun Z' H' v x r => ?_
  cases p with
  | bl c =>
    cases q3
    exact ⟨_, r, k Z' H' A x.stp (o.ex x) .refl⟩
  | _ => cases q3
theorem EvT.ofF {K : PySem.W.Frag} {t : TE} {f : EF} (h : EvF K t f) : EvT K (tTest t) (tF f) := fun σ H Z e e' A b Q o q k => by
  unfold tF at q
  obtain ⟨⟨p, e1⟩, q1, q2⟩ := Option.bind_eq_some_iff.mp q
  obtain ⟨b', q3, q4⟩ := Option.map_eq_some_iff.mp q2
  cases q4
  refine h _ o q1 fun Z' H' v A' s o' sb r => ?_
  cases p with
  | bl c =>
    cases q3
    exact ⟨_, r, k Z' H' A' s o' sb⟩
  | _ => cases q3
section
variable {X : Cx} {x a b c : Expr} {f : EQ} {ff : EF} {fa fb : EQ} {ga gb : EF} {pos : Pos} {g h : ET} {xs : List Expr}
theorem vt_cmp {op : CmpOp} {g : P → P → Option P} (ho : Opr X (compareOp op) g) (ha : VR X a fa) (hb : VR X b fb) (hm : behindInMarks op b = false := by first | exact nomark _ | rfl) : VT X (.Compare a [op] [b] pos) (tQ (eOp g fa fb)) := by
  obtain ⟨r, ho, hr⟩ := ho
  obtain ⟨ta, h1, h2⟩ := ha.out
  obtain ⟨tb, h3, h4⟩ := hb.out
  exact ⟨_, pt_cmpR ho h1 h3 hm, EvT.ofQ (EvQ.op hr h2 h4)⟩
theorem vt_cmpF {op : CmpOp} {g : P → P → Option P} (ho : Opr X (compareOp op) g) (ha : VF X a ga) (hb : VF X b gb) (hm : behindInMarks op b = false := by first | exact nomark _ | rfl) : VT X (.Compare a [op] [b] pos) (tF (fOp g ga gb)) := by
  obtain ⟨r, ho, hr⟩ := ho
  obtain ⟨ta, h1, h2⟩ := ha.out
  obtain ⟨tb, h3, h4⟩ := hb.out
  exact ⟨_, pt_cmpR ho h1 h3 hm, EvT.ofF (EvF.op hr h2 h4)⟩
/-- a value that is a bool -/
theorem vt_val (h : VF X x ff) (he : ∀ whole, isTrue x X.env whole = (do let v ← whole; standAt x.pos; holding [v] (truthy v)) := by intro _; rfl) : VT X x (tF ff) := by
  obtain ⟨t, h1, h2⟩ := h.out
  exact ⟨_, pt_val h1 he, EvT.ofF h2⟩
def tNo (g : ET) : ET := fun e => (g e).map fun q => (!q.1, q.2)
theorem vt_not (h : VT X a g) : VT X (.UnaryOp .Not a pos) (tNo g) := by
  obtain ⟨t, h1, h2⟩ := h.out
  refine ⟨_, pt_not h1, fun σ H Z e e' A b Q o q k => ?_⟩
  unfold tNo at q
  obtain ⟨⟨b', e1⟩, q1, q2⟩ := Option.map_eq_some_iff.mp q
  cases q2
  exact h2 _ o q1 k
def tAn (g h : ET) : ET := fun e => (g e).bind fun q => if q.1 = true then h q.2 else some (false, q.2)
def tOr' (g h : ET) : ET := fun e => (g e).bind fun q => if q.1 = true then some (true, q.2) else h q.2
theorem vw_and1 (h : VT X a g) : VW X (.BoolOp .And [a] pos) g := by
  obtain ⟨t, h1, h2⟩ := h.out
  exact ⟨_, pw_and1 h1, h2⟩
theorem vw_or1 (h : VT X a g) : VW X (.BoolOp .Or [a] pos) g := by
  obtain ⟨t, h1, h2⟩ := h.out
  exact ⟨_, pw_or1 h1, h2⟩
theorem vw_and (ha : VT X a g) (hb : VW X (.BoolOp .And (b :: xs) pos) h) : VW X (.BoolOp .And (a :: b :: xs) pos) (tAn g h) := by
  obtain ⟨t, h1, h2⟩ := ha.out
  obtain ⟨u, h3, h4⟩ := hb.out
  refine ⟨_, pw_and h1 h3, fun σ H Z e e' A b Q o q k => ?_⟩
  unfold tAn at q
  obtain ⟨⟨b', e1⟩, q1, q2⟩ := Option.bind_eq_some_iff.mp q
  refine h2 _ o q1 fun Z1 H1 A1 s1 o1 b1 => ?_
  cases b' with
  | true =>
    rw [if_pos rfl] at q2 ⊢
    exact h4 _ o1 q2 fun Z2 H2 A2 s2 o2 b2 => k Z2 H2 A2 (s1.trans b1 s2) o2 (Sub.trans s1 b1 b2)
  | false =>
    rw [if_neg (show ¬ (false = true) by decide)] at q2 ⊢
    cases q2
    exact k Z1 H1 A1 s1 o1 b1
theorem vw_or (ha : VT X a g) (hb : VW X (.BoolOp .Or (b :: xs) pos) h) : VW X (.BoolOp .Or (a :: b :: xs) pos) (tOr' g h) := by
  obtain ⟨t, h1, h2⟩ := ha.out
  obtain ⟨u, h3, h4⟩ := hb.out
  refine ⟨_, pw_or h1 h3, fun σ H Z e e' A b Q o q k => ?_⟩
  unfold tOr' at q
  obtain ⟨⟨b', e1⟩, q1, q2⟩ := Option.bind_eq_some_iff.mp q
  refine h2 _ o q1 fun Z1 H1 A1 s1 o1 b1 => ?_
  cases b' with
  | false =>
    rw [if_neg (show ¬ (false = true) by decide)] at q2 ⊢
    exact h4 _ o1 q2 fun Z2 H2 A2 s2 o2 b2 => k Z2 H2 A2 (s1.trans b1 s2) o2 (Sub.trans s1 b1 b2)
  | true =>
    rw [if_pos rfl] at q2 ⊢
    cases q2
    exact k Z1 H1 A1 s1 o1 b1
theorem VW.t (h : VW X x g) : VT X x g := by
  obtain ⟨t, h1, h2⟩ := h.out
  exact ⟨_, h1.pt, h2⟩
/-- a value's truth -/
def P.tru : P → Option Bool
  | .non => some false
  | .bl b => some b
  | .int i => some (i != 0)
  | .str y => if y.length ≤ sizeLine then some ((y.length : Int) != 0) else none
  | .lst l => some (!l.isEmpty)
  | .tup _ l => some (!l.isEmpty)
  | .scr l => some (!l.isEmpty)
  | _ => none
def tTru (f : EQ) : ET := fun e => (f e).bind fun p => p.tru.map fun b => (b, e)
theorem vt_truth (h : VR X x f) (he : ∀ whole, isTrue x X.env whole = (do let v ← whole; standAt x.pos; holding [v] (truthy v)) := by intro _; rfl) : VT X x (tTru f) := by
  obtain ⟨t, h1, h2⟩ := h.out
  refine ⟨_, pt_truth h1 he, fun σ H Z e e' A b Q o q k => ?_⟩
  unfold tTru at q
  obtain ⟨p, q1, q2⟩ := Option.bind_eq_some_iff.mp q
  obtain ⟨b', q3, q4⟩ := Option.map_eq_some_iff.mp q2
  cases q4
  refine h2 _ o q1 fun Z' H' v x r => ?_
  have fin := k Z' H' A x.stp (o.ex x) .refl
  cases p with
  | non => cases q3; cases r; exact ⟨_, rfl, fin⟩
  | bl c => cases q3; cases r; exact ⟨_, rfl, fin⟩
  | int i => cases q3; cases r; exact ⟨_, rfl, fin⟩
  | str y =>
    have q3' : (if y.length ≤ sizeLine then some ((y.length : Int) != 0) else none) = some b := q3
    split at q3'
    · rename_i hy
      cases q3'; cases r; exact ⟨_, ⟨hy, rfl⟩, fin⟩
    · cases q3'
  | lst l =>
    cases q3
    obtain ⟨a, vs, e1, h3, h4⟩ := r
    subst e1
    exact ⟨_, .inl ⟨vs, SqL.of h3, by rw [h4.isEmpty]⟩, fin⟩
  | tup b l =>
    cases q3
    obtain ⟨a, vs, e1, h3, h4⟩ := r
    subst e1
    exact ⟨_, .inr (.inl ⟨vs, Same.seqT x.zh h3.1, by rw [h4.isEmpty]⟩), fin⟩
  | scr l =>
    cases q3
    obtain ⟨a, e1, h3⟩ := r
    subst e1
    exact ⟨_, .inl ⟨_, Same.seq x.zh h3, by cases l <;> rfl⟩, fin⟩
  | _ => cases q3
/-! ### a if t else b -/
def fIf (t : ET) (fa fb : EF) : EF := fun e => (t e).bind fun q => if q.1 = true then fa q.2 else fb q.2
theorem vf_if (hc : VT X c g) (ha : VF X a ga) (hb : VF X b gb) : VF X (.IfExp c a b pos) (fIf g ga gb) := by
  obtain ⟨t, h1, h2⟩ := hc.out
  obtain ⟨ta, h3, h4⟩ := ha.out
  obtain ⟨tb, h5, h6⟩ := hb.out
  refine ⟨_, pe_ifExp h1 h3 h5, fun σ H Z e e' A p Q o q k => ?_⟩
  unfold fIf at q
  obtain ⟨⟨b', e1⟩, q1, q2⟩ := Option.bind_eq_some_iff.mp q
  refine h2 _ o q1 fun Z1 H1 A1 s1 o1 b1 => ?_
  cases b' with
  | true =>
    rw [if_pos rfl] at q2 ⊢
    exact h4 _ o1 q2 fun Z2 H2 v A2 s2 o2 b2 r => k Z2 H2 v A2 (s1.trans b1 s2) o2 (Sub.trans s1 b1 b2) r
  | false =>
    rw [if_neg (show ¬ (false = true) by decide)] at q2 ⊢
    exact h6 _ o1 q2 fun Z2 H2 v A2 s2 o2 b2 r => k Z2 H2 v A2 (s1.trans b1 s2) o2 (Sub.trans s1 b1 b2) r
/-! ### and, or, not as values -/
def fAn (ga gb : EF) : EF := fun e => (ga e).bind fun q => q.1.b.bind fun c => if c = true then gb q.2 else some (.bl false, q.2)
def fOr (ga gb : EF) : EF := fun e => (ga e).bind fun q => q.1.b.bind fun c => if c = true then some (.bl true, q.2) else gb q.2
theorem vf_one {op} (h : VF X a ga) : VF X (.BoolOp op [a] pos) ga := by
  obtain ⟨t, h1, h2⟩ := h.out
  exact ⟨_, pe_one h1, h2⟩
theorem vf_and (ha : VF X a ga) (hb : VF X (.BoolOp .And (b :: xs) pos) gb) : VF X (.BoolOp .And (a :: b :: xs) pos) (fAn ga gb) := by
  obtain ⟨ta, h3, h4⟩ := ha.out
  obtain ⟨tb, h5, h6⟩ := hb.out
  refine ⟨_, pe_and h3 h5, fun σ H Z e e' A p Q o q k => ?_⟩
  unfold fAn at q
  obtain ⟨⟨p', e1⟩, q1, q2⟩ := Option.bind_eq_some_iff.mp q
  obtain ⟨c, q3, q4⟩ := Option.bind_eq_some_iff.mp q2
  refine h4 _ o q1 fun Z1 H1 v A1 s1 o1 b1 r1 => ?_
  cases p' with
  | bl b' =>
    cases q3
    refine ⟨c, r1, ?_⟩
    cases c with
    | true =>
      rw [if_pos rfl] at q4 ⊢
      exact h6 _ o1 q4 fun Z2 H2 v A2 s2 o2 b2 r => k Z2 H2 v A2 (s1.trans b1 s2) o2 (Sub.trans s1 b1 b2) r
    | false =>
      rw [if_neg (by decide)] at q4 ⊢
      cases q4
      exact k Z1 H1 _ A1 s1 o1 b1 rfl
  | _ => cases q3
theorem vf_or (ha : VF X a ga) (hb : VF X (.BoolOp .Or (b :: xs) pos) gb) : VF X (.BoolOp .Or (a :: b :: xs) pos) (fOr ga gb) := by
  obtain ⟨ta, h3, h4⟩ := ha.out
  obtain ⟨tb, h5, h6⟩ := hb.out
  refine ⟨_, pe_or h3 h5, fun σ H Z e e' A p Q o q k => ?_⟩
  unfold fOr at q
  obtain ⟨⟨p', e1⟩, q1, q2⟩ := Option.bind_eq_some_iff.mp q
  obtain ⟨c, q3, q4⟩ := Option.bind_eq_some_iff.mp q2
  refine h4 _ o q1 fun Z1 H1 v A1 s1 o1 b1 r1 => ?_
  cases p' with
  | bl b' =>
    cases q3
    refine ⟨c, r1, ?_⟩
    cases c with
    | false =>
      rw [if_neg (by decide)] at q4 ⊢
      exact h6 _ o1 q4 fun Z2 H2 v A2 s2 o2 b2 r => k Z2 H2 v A2 (s1.trans b1 s2) o2 (Sub.trans s1 b1 b2) r
    | true =>
      rw [if_pos rfl] at q4 ⊢
      cases q4
      exact k Z1 H1 _ A1 s1 o1 b1 rfl
  | _ => cases q3
def fNot (ga : EF) : EF := fun e => (ga e).bind fun q => q.1.b.map fun c => (.bl (!c), q.2)
theorem vf_not (ha : VF X a ga) : VF X (.UnaryOp .Not a pos) (fNot ga) := by
  obtain ⟨ta, h3, h4⟩ := ha.out
  refine ⟨_, pe_not h3, fun σ H Z e e' A p Q o q k => ?_⟩
  unfold fNot at q
  obtain ⟨⟨p', e1⟩, q1, q2⟩ := Option.bind_eq_some_iff.mp q
  obtain ⟨c, q3, q4⟩ := Option.map_eq_some_iff.mp q2
  cases q4
  refine h4 _ o q1 fun Z1 H1 v A1 s1 o1 b1 r1 => ?_
  cases p' with
  | bl b' =>
    cases q3
    exact ⟨c, r1, k Z1 H1 _ A1 s1 o1 b1 rfl⟩
  | _ => cases q3
def eNeg (fa : EQ) : EQ := fun e => (fa e).bind fun p => match p with
  | .int i => some (.int (-i))
  | _ => none
theorem vq_neg (ha : VR X a fa) : VQ X (.UnaryOp .USub a pos) (eNeg fa) := by
  obtain ⟨ta, h3, h4⟩ := ha.out
  refine ⟨_, pe_un un_neg h3, fun σ H Z e A p Q o q k => ?_⟩
  unfold eNeg at q
  obtain ⟨p', q1, q2⟩ := Option.bind_eq_some_iff.mp q
  split at q2
  · cases q2
    refine h4 _ o q1 fun Z1 H1 v x1 r1 => ?_
    cases r1
    exact ⟨_, rfl, k Z1 H1 _ x1 rfl⟩
  · cases q2
end
/-! ### slices -/
abbrev EO := En → Option (Option Int)
def EvO (K : PySem.W.Frag) (t : TO) (f : EO) : Prop := ∀ ⦃σ : L2.St⦄ ⦃H Z : Hp⦄ ⦃e : En⦄ ⦃A : List Addr⦄ ⦃i : Option Int⦄ (Q : Option Int → Hp → Prop), Ok K Z H σ e A → f e = some i →
  (∀ Z' H', Ex Z H Z' H' → Q i H') → t σ H Q
structure VO (X : Cx) (x : Option Expr) (f : EO) : Prop where
  out : ∃ t, PO X x t ∧ EvO X.K t f
def oN : EO := fun _ => some none
def oS (f : EQ) : EO := fun e => (f e).bind fun p => match p with
  | .int i => some (some i)
  | _ => none
def cutP {α : Type} (xs : List α) (lo hi : Option Int) : List α := (xs.drop (HT.sIx xs.length 0 lo)).take (HT.sIx xs.length xs.length hi - HT.sIx xs.length 0 lo)
/-- whether the part is one of the heap itself -/
def cutB (b : Bool) {α : Type} (l : List α) (lo hi : Option Int) : Bool := if HT.sIx l.length 0 lo = 0 ∧ HT.sIx l.length l.length hi = l.length then b else true
def pSl : P → Option Int → Option Int → Option P
  | .lst l, lo, hi => some (.lst (cutP l lo hi))
  | .tup b l, lo, hi => some (.tup (cutB b l lo hi) (cutP l lo hi))
  | .str z, lo, hi => if z.length ≤ sizeLine then some (.str (cutS z lo hi)) else none
  | _, _, _ => none
def eSl (f : EQ) (g h : EO) : EQ := fun e => (f e).bind fun p => (g e).bind fun lo => (h e).bind fun hi => pSl p lo hi
section
variable {X : Cx} {x : Expr} {lo hi : Option Expr} {f : EQ} {g h : EO} {pos p2 : Pos}
theorem vo_none : VO X none oN := ⟨_, po_none, fun σ H Z e A i Q o q k => by cases q; exact k Z H (.refl o.zh)⟩
theorem vo_some (ha : VR X x f) : VO X (some x) (oS f) := by
  obtain ⟨ta, h3, h4⟩ := ha.out
  refine ⟨_, po_some h3, fun σ H Z e A i Q o q k => ?_⟩
  unfold oS at q
  obtain ⟨p', q1, q2⟩ := Option.bind_eq_some_iff.mp q
  split at q2
  · cases q2
    refine h4 _ o q1 fun Z1 H1 v x1 r1 => ?_
    cases r1
    exact ⟨_, rfl, k Z1 H1 x1⟩
  · cases q2
theorem cut_rps {K : PySem.W.Frag} {Z : Hp} {l : List P} {vs : List V} (h : Rps K Z l vs) (lo hi : Option Int) : Rps K Z (cutP l lo hi) (cutV vs lo hi) := by
  unfold cutP cutV
  rw [h.length]
  exact (h.drop _).take _
theorem cut_all {vs : List V} {lo hi : Option Int} (h : HT.sIx vs.length 0 lo = 0 ∧ HT.sIx vs.length vs.length hi = vs.length) : cutV vs lo hi = vs := by
  unfold cutV
  rw [h.1, h.2]
  simp
theorem cut_allP {α : Type} {l : List α} {n : Nat} {lo hi : Option Int} (hn : l.length = n) (h : HT.sIx n 0 lo = 0 ∧ HT.sIx n n hi = n) : cutP l lo hi = l := by
  subst hn
  unfold cutP
  rw [h.1, h.2]
  simp
theorem vq_slice (hx : VR X x f) (hl : VO X lo g) (hh : VO X hi h) : VQ X (.Subscript x (.Slice lo hi none p2) pos) (eSl f g h) := by
  obtain ⟨t, h1, h2⟩ := hx.out
  obtain ⟨tl, h3, h4⟩ := hl.out
  obtain ⟨th, h5, h6⟩ := hh.out
  refine ⟨_, pe_slice (SlR.or sl_list (SlR.or sl_tupA sl_str)) h1 h3 h5, fun σ H Z e A p Q o q k => ?_⟩
  unfold eSl at q
  obtain ⟨p', q1, q⟩ := Option.bind_eq_some_iff.mp q
  obtain ⟨lo', q2, q⟩ := Option.bind_eq_some_iff.mp q
  obtain ⟨hi', q3, q⟩ := Option.bind_eq_some_iff.mp q
  refine h2 _ o q1 fun Z1 H1 v x1 r1 => h4 _ (o.ex x1) q2 fun Z2 H2 x2 => h6 _ ((o.ex x1).ex x2) q3 fun Z3 H3 x3 => ?_
  have r3 := Rr.mono (x2.z.trans x3.z) (x2.h.trans x3.h) _ _ r1
  have x13 := (x1.trans x2).trans x3
  cases p' with
  | lst l =>
    cases q
    obtain ⟨a, vs, e1, y1, y2⟩ := r3
    exact .inl ⟨a, vs, e1, SqL.of y1, fun pp hp => k _ _ _ (x13.trans (Ex.lay x13.zh hp)) ⟨pp, _, rfl, upd_same, Rps.mono (Ex.lay x13.zh hp).z _ _ (cut_rps y2 _ _)⟩⟩
  | tup b l =>
    cases q
    obtain ⟨a, vs, e1, y1, y2⟩ := r3
    refine .inr (.inl ⟨a, vs, e1, Same.seqT x13.zh y1.1, fun w => ?_, fun w pp hp => ?_⟩)
    · refine k _ _ _ x13 ⟨a, vs, rfl, ?_, ?_⟩
      · unfold cutB
        rw [y2.length, if_pos w]
        exact y1
      · rw [cut_allP y2.length w]
        exact y2
    · exact k _ _ _ (x13.trans (Ex.lay x13.zh hp)) ⟨pp, _, rfl, TpOk.of upd_same, Rps.mono (Ex.lay x13.zh hp).z _ _ (cut_rps y2 _ _)⟩
  | str z =>
    have q' : (if z.length ≤ sizeLine then some (P.str (cutS z lo' hi')) else none) = some p := q
    split at q'
    · rename_i hz
      cases q'
      cases r3
      exact .inr (.inr ⟨z, rfl, hz, k _ _ _ x13 rfl⟩)
    · cases q'
  | _ => cases q
end
end VL
end

section
set_option Elab.async false
set_option linter.all false
set_option maxRecDepth 100000
namespace VL
open PySem PySem.Spec L2

/-! ### what stands at a place changes -/
/-- an expression that tells a place -/
structure VP (X : Cx) (x : Expr) (pl : Pl) : Prop where
  out : ∃ t, PE X x t ∧ ∀ ⦃σ : L2.St⦄ ⦃H Z : Hp⦄ ⦃e : En⦄ ⦃A : List Addr⦄ ⦃d : D⦄ (Q : VK), Ok X.K Z H σ e A → getPl pl e = some d → (∀ v, PlAt X.K H σ pl v → Q v H) → t σ H Q
theorem PlAt.det {K : PySem.W.Frag} {H : Hp} {σ : L2.St} : ∀ {pl : Pl} {v u : V}, PlAt K H σ pl v → PlAt K H σ pl u → v = u
  | .v i, v, u, h, h' => by
    have e : some (some v) = some (some u) := (show σ[i]? = _ from h).symm.trans h'
    cases e; rfl
  | .f p c f, v, u, ⟨a, dx, vfs, h1, h2, h3⟩, ⟨a', dx', vfs', h4, h5, h6⟩ => by
    have e := PlAt.det h1 h4
    cases e
    rw [h2] at h5
    cases h5
    rw [h3] at h6
    cases h6; rfl
section
variable {X : Cx} {pos : Pos} {x : Expr} {pl : Pl}
theorem vp_var (i : Nat) {y : Str} (h : PE X (.Name y pos) (tVar i)) : VP X (.Name y pos) (.v i) := by
  refine ⟨_, h, fun σ H Z e A d Q o q k => ?_⟩
  have q' : e[i]? = some (some d) := by
    unfold getPl at q
    split at q
    · cases q; assumption
    · cases q
  obtain ⟨v, F, q1, _, _⟩ := o.re.get q'
  exact ⟨v, q1, k v q1⟩
theorem vp_fld {c f : Str} (h : VP X x pl) (hC : Cls X.K (He.ga X.K c)) (hn : NoAttr X.K (He.ga X.K c) f) (hb : attributeBase x f X.env (eval x X.env) = eval x X.env := by rfl) : VP X (.Attribute x f pos) (.f pl c f) := by
  obtain ⟨t, h1, h2⟩ := h.out
  refine ⟨_, pe_fld h1 hb, fun σ H Z e A d Q o q k => ?_⟩
  obtain ⟨dp, q1, q2⟩ := Option.bind_eq_some_iff.mp (show (getPl pl e).bind (D.fld c f) = some d from q)
  obtain ⟨v0, F0, w1, _⟩ := focus (pl := .f pl c f) o.re q o.nd o.zh
  obtain ⟨a, dx, vfs, w2, w3, w4⟩ := w1
  refine h2 _ o q1 fun v hv => ?_
  have e := PlAt.det hv w2
  subst e
  exact ⟨a, _, dx, vfs, v0, rfl, w3, hC, hn, w4, k v0 ⟨a, dx, vfs, w2, w3, w4⟩⟩
/-- a place, read -/
def ePl (pl : Pl) : EQ := fun e => (getPl pl e).map D.p
theorem VP.r (h : VP X x pl) : VR X x (ePl pl) := by
  obtain ⟨t, h1, h2⟩ := h.out
  refine ⟨_, h1, fun σ H Z e A p Q o q k => ?_⟩
  obtain ⟨d, q1, q2⟩ := Option.map_eq_some_iff.mp (show (getPl pl e).map D.p = some p from q)
  subst q2
  obtain ⟨v0, F0, w1, w2, _⟩ := focus o.re q1 o.nd o.zh
  refine h2 _ o q1 fun v hv => ?_
  rw [PlAt.det hv w1]
  exact k Z H v0 (.refl o.zh) (RD.rr o.zh d v0 F0 w2)
/-- the one object at a place becomes another one -/
theorem Ok.write {K : PySem.W.Frag} {Z H : Hp} {σ : L2.St} {e : En} {A : List Addr} {d d' : D} {u : HO} {a : Addr} (o : Ok K Z H σ e A) (q : getPl pl e = some d) (hd : ∀ v F, RD K Z H d v F → v = .ref a → F = [a]) (hv : PlAt K H σ pl (.ref a))
    (hd' : RD K Z (upd H a u) d' (.ref a) [a]) (hn : ∀ q, d ≠ .imm q) : ∃ A', Ok K Z (upd H a u) σ (setPl pl d' e) A' ∧ Stp A Z H Z (upd H a u) ∧ Sub A H A' := by
  obtain ⟨v0, F0, w1, w2, w3, w4, w5⟩ := focus o.re q o.nd o.zh
  have e1 := PlAt.det hv w1
  subst e1
  have e2 := hd _ _ w2 rfl
  subst e2
  have ha : a ∈ A := w3 a List.mem_cons_self
  rcases w5 with ⟨p, c, f, qq, y1, y2⟩ | w5
  · exfalso
    subst y1
    have z : (getPl p e).bind (D.fld c f) = some d := q
    rw [y2] at z
    obtain ⟨zz, hz⟩ := fld_imm (show D.fld c f (.imm qq) = some d from z)
    exact hn zz hz
  · have nz : Z a = none := o.off a ha
    have keepZ : Same Z (upd H a u) := fun b ob hb => by
      have ne : b ≠ a := fun z => by rw [z, nz] at hb; cases hb
      rw [upd_ne ne]
      exact o.zh _ _ hb
    obtain ⟨A', x1, x2, x3⟩ := w5 Z (upd H a u) d' [a] (.refl _) (fun b hb hn ob hob => by
      have ne : b ≠ a := fun z => hn (by rw [z]; exact List.mem_cons_self)
      rw [upd_ne ne]; exact hob) hd' (List.nodup_cons.mpr ⟨List.not_mem_nil, List.nodup_nil⟩) fun b hb => .inl hb
    have sub : ∀ b ∈ A', b ∈ A := fun b hb => by
      rcases x3 b hb with z | z
      · rw [List.mem_singleton.mp z]; exact ha
      · exact z.1
    refine ⟨A', ⟨keepZ, x1, x2, fun b hb => o.off b (sub b hb)⟩, ⟨.refl _, keepZ, fun b ob hob hnA => ?_, fun b ob hob => .inl hob⟩, fun b hb => .inl (sub b hb)⟩
    have ne : b ≠ a := fun z => hnA (by rw [z]; exact ha)
    rw [upd_ne ne]; exact hob
end
def D.ty : D → String
  | .lst _ => "list"
  | .dK _ _ => "dict"
  | .dT _ _ => "dict"
  | _ => ""
section
variable {K : PySem.W.Frag} {Z H : Hp}
theorem RD.one {d : D} {v : V} {F : List Addr} (h : RD K Z H d v F) (t : d.ty ≠ "") : ∃ a, v = .ref a ∧ F = [a] := by
  cases d with
  | lst l => obtain ⟨a, vs, h1, h2, _⟩ := h; exact ⟨a, h1, h2⟩
  | dK ks l => obtain ⟨a, vs, h1, h2, _⟩ := h; exact ⟨a, h1, h2⟩
  | dT ks l => obtain ⟨a, vs, h1, h2, _⟩ := h; exact ⟨a, h1, h2⟩
  | imm p => exact absurd rfl t
  | obj c fs l => exact absurd rfl t
theorem RD.tyV {d : D} {a : Addr} {F : List Addr} {T : String} (h : RD K Z H d (.ref a) F) (t : d.ty = T) (hT : T ≠ "") : tyV K T (.ref a) H := by
  subst t
  cases d with
  | lst l =>
    obtain ⟨b, vs, h1, h2, h3, _⟩ := h
    cases h1
    exact .inl ⟨rfl, _, SqL.of h3⟩
  | dK ks l =>
    obtain ⟨b, vs, h1, h2, h3, _⟩ := h
    cases h1
    exact .inr (.inr (.inl ⟨rfl, .inl ⟨_, h3⟩⟩))
  | dT ks l =>
    obtain ⟨b, vs, h1, h2, h3, _⟩ := h
    cases h1
    exact .inr (.inr (.inl ⟨rfl, .inr ⟨_, h3⟩⟩))
  | imm p => exact absurd rfl hT
  | obj c fs l => exact absurd rfl hT
end
theorem PlAt.mono {K : PySem.W.Frag} {H H' : Hp} {σ : L2.St} (s : Same H H') : ∀ {pl : Pl} {v : V}, PlAt K H σ pl v → PlAt K H' σ pl v
  | .v _, _, h => h
  | .f _ _ _, _, ⟨a, dx, vfs, h1, h2, h3⟩ => ⟨a, dx, vfs, PlAt.mono s h1, s _ _ h2, h3⟩

/-! ### d[k] = v -/
def putKs {κ : Type} [DecidableEq κ] (ks : List κ) (k : κ) : List κ := if k ∈ ks then ks else ks ++ [k]
def putL {κ : Type} [DecidableEq κ] : List κ → List P → κ → P → List P
  | j :: ks, x :: l, k, p => if j = k then p :: putL ks l k p else x :: putL ks l k p
  | _, l, _, _ => l
def putV {κ : Type} [DecidableEq κ] (ks : List κ) (l : List P) (k : κ) (p : P) : List P := if k ∈ ks then putL ks l k p else l ++ [p]
theorem putL_map {K : PySem.W.Frag} {Z : Hp} {κ : Type} [DecidableEq κ] {k : κ} {p : P} {v : V} (hv : Rp K Z p v) : ∀ (kvs : List (κ × V)) (l : List P), Rps K Z l (kvs.map (·.2)) → Rps K Z (putL (kvs.map (·.1)) l k p) ((kvs.map (fun kv => if kv.1 = k then (kv.1, v) else kv)).map (·.2))
  | [], l, h => by cases l <;> exact h
  | (j, u) :: kvs, [], h => by
    have e := h.length
    simp at e
  | (j, u) :: kvs, x :: l, ⟨w, r, h1, h2, h3⟩ => by
    rw [List.map_cons] at h1
    injection h1 with e1 e2
    subst e1
    subst e2
    have ih := putL_map (k := k) hv kvs l h3
    show Rps K Z (if j = k then p :: putL (kvs.map (·.1)) l k p else x :: putL (kvs.map (·.1)) l k p) ((if j = k then (j, v) else (j, u)).2 :: _)
    by_cases q : j = k
    · rw [if_pos q, if_pos q]
      exact ⟨v, _, rfl, hv, ih⟩
    · rw [if_neg q, if_neg q]
      exact ⟨u, _, rfl, h2, ih⟩
theorem putK_keys {κ : Type} [DecidableEq κ] (kvs : List (κ × V)) (k : κ) (v : V) : (putK kvs k v).map (·.1) = putKs (kvs.map (·.1)) k := by
  unfold putK putKs
  by_cases q : k ∈ kvs.map (·.1)
  · have e : (kvs.any fun kv => decide (kv.1 = k)) = true := by
      rw [List.any_eq_true]
      obtain ⟨kv, h1, h2⟩ := List.mem_map.mp q
      exact ⟨kv, h1, decide_eq_true h2⟩
    rw [if_pos q, if_pos e, List.map_map]
    refine List.map_congr_left fun kv _ => ?_
    show (if kv.1 = k then (kv.1, v) else kv).1 = kv.1
    split <;> rfl
  · have e : ¬ (kvs.any fun kv => decide (kv.1 = k)) = true := by
      rw [List.any_eq_true]
      rintro ⟨kv, h1, h2⟩
      exact q (List.mem_map.mpr ⟨kv, h1, of_decide_eq_true h2⟩)
    rw [if_neg q, if_neg e, List.map_append]
    rfl
theorem putK_vals {K : PySem.W.Frag} {Z : Hp} {κ : Type} [DecidableEq κ] {kvs : List (κ × V)} {l : List P} {k : κ} {p : P} {v : V} (h : Rps K Z l (kvs.map (·.2))) (hv : Rp K Z p v) : Rps K Z (putV (kvs.map (·.1)) l k p) ((putK kvs k v).map (·.2)) := by
  unfold putK putV
  by_cases q : k ∈ kvs.map (·.1)
  · have e : (kvs.any fun kv => decide (kv.1 = k)) = true := by
      rw [List.any_eq_true]
      obtain ⟨kv, h1, h2⟩ := List.mem_map.mp q
      exact ⟨kv, h1, decide_eq_true h2⟩
    rw [if_pos q, if_pos e]
    exact putL_map hv kvs l h
  · have e : ¬ (kvs.any fun kv => decide (kv.1 = k)) = true := by
      rw [List.any_eq_true]
      rintro ⟨kv, h1, h2⟩
      exact q (List.mem_map.mpr ⟨kv, h1, of_decide_eq_true h2⟩)
    rw [if_neg q, if_neg e, List.map_append]
    exact h.append (Rps.singleton hv)
theorem Rps.set {K : PySem.W.Frag} {Z : Hp} {p : P} {v : V} (hv : Rp K Z p v) : ∀ {l : List P} {vs : List V} (j : Nat), Rps K Z l vs → Rps K Z (l.set j p) (vs.set j v)
  | [], _, j, h => by rw [show _ = [] from h]; simp [Rps]
  | x :: l, _, 0, ⟨w, r, h1, h2, h3⟩ => by rw [h1]; exact ⟨v, r, rfl, hv, h3⟩
  | x :: l, _, j + 1, ⟨w, r, h1, h2, h3⟩ => by rw [h1]; exact ⟨w, _, rfl, h2, Rps.set hv j h3⟩
def putD : D → P → P → Option D
  | .lst l, .int i, p => (ixN l.length i).map fun j => .lst (l.set j p)
  | .dK ks l, q, p => q.key.bind fun k => if ks.length < sizeLine then some (.dK (putKs ks k) (putV ks l k p)) else none
  | .dT ks l, q, p => q.tkey.bind fun k => if ks.length < sizeLine then some (.dT (putKs ks k) (putV ks l k p)) else none
  | _, _, _ => none
def rSetA : TSet := fun o i v H Q => rSetL o i v H Q ∨ rSetD o i v H Q
theorem set_any {X : Cx} (hu : X.A.units + 1 < cLine) : PSet X rSetA := fun pins s σ H o i v ov iv u Q I ro ri rv h => h.elim (set_list pins s σ H o i v ov iv u Q I ro ri rv) (set_dict hu pins s σ H o i v ov iv u Q I ro ri rv)
theorem Rr.keyV {K : PySem.W.Frag} {Z H : Hp} {p : P} {x : V} {k : Key} (h : Rr K Z H p x) (e : p.key = some k) : x = kV k := by
  cases p <;> simp [P.key] at e
  · subst e; exact h
  · subst e; exact h
theorem Rr.tkeyV {K : PySem.W.Frag} {Z H : Hp} {p : P} {x : V} {k : List Key} (s : Same Z H) (h : Rr K Z H p x) (e : p.tkey = some k) : ∃ b, x = .ref b ∧ H b = some (.tup (k.map kV)) := by
  cases p with
  | tup bb l =>
    cases bb with
    | true =>
      obtain ⟨a, vs, h1, h2, h3⟩ := h
      have e2 := Rps.keys h3 (show P.keys l = some k from e)
      subst e2
      exact ⟨a, h1, s _ _ (h2.2 rfl)⟩
    | false => cases e
  | _ => cases e
theorem put_ok2 {K : PySem.W.Frag} {Z H : Hp} {d d' : D} {a : Addr} {x v : V} {q p : P} (s : Same Z H) (h : RD K Z H d (.ref a) [a]) (hq : Rr K Z H q x) (hv : Rp K Z p v) (e : putD d q p = some d') :
    ∃ u, RD K Z (upd H a u) d' (.ref a) [a] ∧ ∀ Q : Hp → Prop, Q (upd H a u) → rSetA (.ref a) x v H Q := by
  unfold putD at e
  split at e
  · obtain ⟨j, e1, e2⟩ := Option.map_eq_some_iff.mp e
    subst e2
    obtain ⟨b, vs, h1, _, h3, h4⟩ := h
    cases h1
    cases hq
    refine ⟨.lst (vs.set j v), ⟨a, _, rfl, rfl, upd_same, h4.set hv j⟩, fun Q k => .inl ⟨a, vs, _, j, rfl, rfl, h3, by rw [← h4.length]; exact e1, k⟩⟩
  · rename_i ks l _ _
    obtain ⟨k, e1, e2⟩ := Option.bind_eq_some_iff.mp e
    split at e2
    · rename_i hl
      cases e2
      obtain ⟨b, kvs, h1, _, h3, h4, h5⟩ := h
      cases h1
      subst h4
      refine ⟨.dK (putK kvs k v), ⟨a, _, rfl, rfl, upd_same, putK_keys kvs k v, putK_vals h5 hv⟩, fun Q kk => .inr ⟨a, _, rfl, .inl ⟨kvs, k, h3, hq.keyV e1, by rw [List.length_map] at hl; exact hl, rfl⟩, kk⟩⟩
    · cases e2
  · rename_i ks l _ _
    obtain ⟨k, e1, e2⟩ := Option.bind_eq_some_iff.mp e
    split at e2
    · rename_i hl
      cases e2
      obtain ⟨b, kvs, h1, _, h3, h4, h5⟩ := h
      cases h1
      subst h4
      obtain ⟨c, f1, f2⟩ := hq.tkeyV s e1
      refine ⟨.dT (putK kvs k v), ⟨a, _, rfl, rfl, upd_same, putK_keys kvs k v, putK_vals h5 hv⟩, fun Q kk => .inr ⟨a, _, rfl, .inr ⟨kvs, k, c, h3, f1, f2, by rw [List.length_map] at hl; exact hl, rfl⟩, kk⟩⟩
    · cases e2
  · cases e
end VL
end

section
set_option Elab.async false
set_option linter.all false
set_option maxRecDepth 100000
namespace VL
open PySem PySem.Spec L2

/-! ### statements -/
inductive Out where
  | nx (e : En) | rt (d : D) (e : En) | bk (e : En) | ct (e : En)
abbrev ES := En → Option Out
/-- the slots beside W are as they were -/
def Fix (W : List Nat) (σ σ' : L2.St) : Prop := ∀ i, i ∉ W → σ'[i]? = σ[i]?
theorem Fix.refl {W : List Nat} {σ : L2.St} : Fix W σ σ := fun _ _ => rfl
theorem Fix.trans {W : List Nat} {σ σ1 σ2 : L2.St} (a : Fix W σ σ1) (b : Fix W σ1 σ2) : Fix W σ σ2 := fun i h => (b i h).trans (a i h)
theorem Fix.mono {W W' : List Nat} {σ σ' : L2.St} (a : Fix W σ σ') (h : ∀ i ∈ W, i ∈ W') : Fix W' σ σ' := fun i n => a i fun z => n (h i z)
theorem Fix.set {W : List Nat} {σ : L2.St} {i : Nat} {v : Option V} (h : i ∈ W) : Fix W σ (σ.set i v) := fun j n => by
  have e : i ≠ j := fun z => n (z ▸ h)
  rw [List.getElem?_set_ne e]
def Cont (K : PySem.W.Frag) (W : List Nat) (A : List Addr) (Z H : Hp) (σ : L2.St) (E : Ends) : Out → Prop
  | .nx e' => ∀ σ' Z' H' A', Stp A Z H Z' H' → Ok K Z' H' σ' e' A' → Sub A H A' → Fix W σ σ' → E.nx σ' H'
  | .bk e' => ∀ σ' Z' H' A', Stp A Z H Z' H' → Ok K Z' H' σ' e' A' → Sub A H A' → Fix W σ σ' → E.bk σ' H'
  | .ct e' => ∀ σ' Z' H' A', Stp A Z H Z' H' → Ok K Z' H' σ' e' A' → Sub A H A' → Fix W σ σ' → E.ct σ' H'
  | .rt d e' => ∀ σ' Z' H' v A' F, Stp A Z H Z' H' → Ok K Z' H' σ' e' A' → RD K Z' H' d v F → (F ++ A').Nodup → (∀ a ∈ F, Z' a = none) → Sub A H (F ++ A') → Fix W σ σ' → E.rt v H'
/-- from a later state -/
theorem Cont.later {K : PySem.W.Frag} {W : List Nat} {A A1 : List Addr} {Z H Z1 H1 : Hp} {σ σ1 : L2.St} {E : Ends} {o : Out} (c : Cont K W A Z H σ E o) (s : Stp A Z H Z1 H1) (b : Sub A H A1) (f : Fix W σ σ1) : Cont K W A1 Z1 H1 σ1 E o := by
  cases o with
  | nx e => exact fun σ' Z' H' A' s' o' b' f' => c σ' Z' H' A' (s.trans b s') o' (Sub.trans s b b') (f.trans f')
  | bk e => exact fun σ' Z' H' A' s' o' b' f' => c σ' Z' H' A' (s.trans b s') o' (Sub.trans s b b') (f.trans f')
  | ct e => exact fun σ' Z' H' A' s' o' b' f' => c σ' Z' H' A' (s.trans b s') o' (Sub.trans s b b') (f.trans f')
  | rt d e => exact fun σ' Z' H' v A' F s' o' r nd off b' f' => c σ' Z' H' v A' F (s.trans b s') o' r nd off (Sub.trans s b b') (f.trans f')
def EvS (K : PySem.W.Frag) (W : List Nat) (t : TS) (f : ES) : Prop := ∀ ⦃σ : L2.St⦄ ⦃H Z : Hp⦄ ⦃e : En⦄ ⦃A : List Addr⦄ ⦃o : Out⦄ (E : Ends), Ok K Z H σ e A → f e = some o → Cont K W A Z H σ E o → t E σ H
structure VS (X : Cx) (W : List Nat) (x : Stmt) (f : ES) : Prop where
  out : ∃ t, PS X x t ∧ EvS X.K W t f
structure VSs (X : Cx) (W : List Nat) (xs : List Stmt) (f : ES) : Prop where
  out : ∃ t, PSs X xs t ∧ EvS X.K W t f
def sNx : ES := fun e => some (.nx e)
def sSeq (f g : ES) : ES := fun e => (f e).bind fun o => match o with
  | .nx e' => g e'
  | o => some o
section
variable {X : Cx} {W : List Nat} {x : Stmt} {xs : List Stmt} {f g : ES} {pos : Pos} {a : Expr} {fd : ED} {ff : EF} {t : ET}
theorem vss_nil : VSs X W [] sNx := ⟨_, pss_nil, fun σ H Z e A o E ok q c => by cases q; exact c σ Z H A (Ex.refl ok.zh).stp ok .refl .refl⟩
theorem vss_one (h : VS X W x f) : VSs X W [x] f := by
  obtain ⟨t, h1, h2⟩ := h.out
  exact ⟨t, pss_one h1, h2⟩
theorem vss_cons (h : VS X W x f) (hs : VSs X W xs g) : VSs X W (x :: xs) (sSeq f g) := by
  obtain ⟨t, h1, h2⟩ := h.out
  obtain ⟨u, h3, h4⟩ := hs.out
  refine ⟨_, pss_cons h1 h3, fun σ H Z e A o E ok q c => ?_⟩
  unfold sSeq at q
  obtain ⟨o1, q1, q2⟩ := Option.bind_eq_some_iff.mp q
  refine h2 _ ok q1 ?_
  cases o1 with
  | nx e1 => exact fun σ' Z' H' A' s' o' b' f' => h4 E o' q2 (c.later s' b' f')
  | rt d e1 => cases q2; exact c
  | bk e1 => cases q2; exact c
  | ct e1 => cases q2; exact c
theorem vs_pass : VS X W (.Pass pos) sNx := ⟨_, ps_pass, fun σ H Z e A o E ok q c => by cases q; exact c σ Z H A (Ex.refl ok.zh).stp ok .refl .refl⟩
theorem vs_break : VS X W (.Break pos) (fun e => some (.bk e)) := ⟨_, ps_break, fun σ H Z e A o E ok q c => by cases q; exact c σ Z H A (Ex.refl ok.zh).stp ok .refl .refl⟩
theorem vs_continue : VS X W (.Continue pos) (fun e => some (.ct e)) := ⟨_, ps_continue, fun σ H Z e A o E ok q c => by cases q; exact c σ Z H A (Ex.refl ok.zh).stp ok .refl .refl⟩
/-- code that is not come to -/
def sNo : ES := fun _ => none
theorem vs_never : VS X W x sNo := ⟨_, ps_never, fun σ H Z e A o E ok q c => by cases q⟩
theorem vss_never : VSs X W xs sNo := ⟨_, pss_never, fun σ H Z e A o E ok q c => by cases q⟩
def sExpr (fd : ED) : ES := fun e => (fd e).map fun q => .nx q.2
theorem vs_expr (h : VD X a fd) (hs : swapsWith a none pos.line X.env = pure false := by rfl) : VS X W (.Expr a pos) (sExpr fd) := by
  obtain ⟨t, h1, h2⟩ := h.out
  refine ⟨_, ps_expr h1 hs, fun σ H Z e A o E ok q c => ?_⟩
  unfold sExpr at q
  obtain ⟨⟨d, e1⟩, q1, q2⟩ := Option.map_eq_some_iff.mp q
  cases q2
  exact h2 _ ok q1 fun Z' H' v A' F s' o' r nd off b => c σ Z' H' A' s' o' (fun a ha => b a (List.mem_append_right _ ha)) .refl
def sRet (fd : ED) : ES := fun e => (fd e).map fun q => .rt q.1 q.2
theorem vs_ret (h : VD X a fd) : VS X W (.Return (some a) pos) (sRet fd) := by
  obtain ⟨t, h1, h2⟩ := h.out
  refine ⟨_, ps_ret h1, fun σ H Z e A o E ok q c => ?_⟩
  unfold sRet at q
  obtain ⟨⟨d, e1⟩, q1, q2⟩ := Option.map_eq_some_iff.mp q
  cases q2
  exact h2 _ ok q1 fun Z' H' v A' F s' o' r nd off b => c σ Z' H' v A' F s' o' r nd off b .refl
theorem vs_retN : VS X W (.Return none pos) (fun e => some (.rt (.imm .non) e)) := ⟨_, ps_retN, fun σ H Z e A o E ok q c => by
  cases q
  exact c σ Z H .non A [] (Ex.refl ok.zh).stp ok ⟨rfl, rfl⟩ ok.nd (fun _ z => nomatch z) .refl .refl⟩
/-- a variable is handed back -/
def dMv (i : Nat) : ED := fun e => match e[i]? with
  | some (some (.imm p)) => some (.imm p, e)
  | some (some d) => some (d, e.set i none)
  | _ => none
theorem vd_move (i : Nat) {y : Str} (h : PE X (.Name y pos) (tVar i)) : VD X (.Name y pos) (dMv i) := by
  refine ⟨_, h, fun σ H Z e e' A d Q o q k => ?_⟩
  unfold dMv at q
  split at q
  · rename_i p hp
    cases q
    obtain ⟨v, F, q1, q2, _⟩ := o.re.get hp
    exact ⟨v, q1, k Z H v A [] (Ex.refl o.zh).stp o ⟨q2.1, rfl⟩ o.nd (fun _ z => nomatch z) .refl⟩
  · rename_i d' _ hp
    cases q
    obtain ⟨v, F, B, q1, q2, q3, q4, q5⟩ := o.re.out hp o.nd
    have q4' := q4
    rw [List.nodup_append] at q4'
    exact ⟨v, q1, k Z H v B F (Ex.refl o.zh).stp ⟨o.zh, q3, q4'.2.1, fun a ha => o.off a (q5 a (List.mem_append_right _ ha))⟩ q2 q4 (fun a ha => o.off a (q5 a (List.mem_append_left _ ha))) (fun a ha => .inl (q5 a ha))⟩
  · cases q
def sIf (t : ET) (f g : ES) : ES := fun e => (t e).bind fun q => if q.1 = true then f q.2 else g q.2
theorem vs_if {c : Expr} {ys : List Stmt} (hc : VT X c t) (ha : VSs X W xs f) (hb : VSs X W ys g) : VS X W (.If c xs ys pos) (sIf t f g) := by
  obtain ⟨tc, h1, h2⟩ := hc.out
  obtain ⟨ta, h3, h4⟩ := ha.out
  obtain ⟨tb, h5, h6⟩ := hb.out
  refine ⟨_, ps_if h1 h3 h5, fun σ H Z e A o E ok q c => ?_⟩
  unfold sIf at q
  obtain ⟨⟨b', e1⟩, q1, q2⟩ := Option.bind_eq_some_iff.mp q
  refine h2 _ ok q1 fun Z1 H1 A1 s1 o1 b1 => ?_
  cases b' with
  | true =>
    rw [if_pos rfl] at q2 ⊢
    exact h4 E o1 q2 (c.later s1 b1 .refl)
  | false =>
    rw [if_neg (show ¬ (false = true) by decide)] at q2 ⊢
    exact h6 E o1 q2 (c.later s1 b1 .refl)
/-! ### x = e -/
def sSet (i : Nat) (fd : ED) : ES := fun e => (fd e).bind fun q => if i < q.2.length then some (.nx (q.2.set i (some q.1))) else none
theorem vs_set {i : Nat} {y : Str} {pos' : Pos} (hN : X.N.Nodup) (hi : X.N[i]? = some y) (hx : Loc X.env.scope y) (h : VD X a fd) (hw : i ∈ W) (hs : swapsWith a (some (.Name y pos')) pos.line X.env = pure false := by rfl)
    (hf : X.fn y = true ∨ X.env.scope.names.lookup y = some .local := by first | exact .inl rfl | exact .inr rfl | assumption) : VS X W (.Assign [.Name y pos'] a pos) (sSet i fd) := by
  obtain ⟨t, h1, h2⟩ := h.out
  refine ⟨_, ps_set hN hi hx h1 hs hf, fun σ H Z e A o E ok q c => ?_⟩
  unfold sSet at q
  obtain ⟨⟨d, e1⟩, q1, q2⟩ := Option.bind_eq_some_iff.mp q
  dsimp only at q2
  split at q2
  · rename_i hl
    cases q2
    refine h2 _ ok q1 fun Z' H' v A' F s' o' r nd off b => ?_
    obtain ⟨A2, w1, w2⟩ := o'.set r nd off hl
    exact c _ Z' H' A2 s' w1 (fun a ha => b a (w2 a ha)) (.set hw)
  · cases q2
/-! ### targets -/
inductive Tg where
  | n (i : Nat) | t (l : List Tg) | s (pl : Pl) (f : EQ)
mutual
def asT : Tg → P → En → Option En
  | .n i, p, e => if i < e.length then some (e.set i (some (.imm p))) else none
  | .t l, .tup _ ps, e => asTs l ps e
  | .t _, _, _ => none
  | .s pl f, p, e => (getPl pl e).bind fun d => if d.ty = "" then none else (f e).bind fun k => (putD d k p).map fun d' => setPl pl d' e
def asTs : List Tg → List P → En → Option En
  | [], [], e => some e
  | t :: l, p :: ps, e => (asT t p e).bind fun e' => asTs l ps e'
  | _, _, _ => none
end
def EvG (K : PySem.W.Frag) (W : List Nat) (g : TG) (t : Tg) : Prop := ∀ ⦃σ : L2.St⦄ ⦃H Z : Hp⦄ ⦃e e' : En⦄ ⦃A : List Addr⦄ ⦃p : P⦄ ⦃v : V⦄ (Q : L2.St → Hp → Prop), Ok K Z H σ e A → Rp K Z p v → asT t p e = some e' →
  (∀ σ' Z' H' A', Stp A Z H Z' H' → Ok K Z' H' σ' e' A' → Sub A H A' → Fix W σ σ' → Q σ' H') → g v σ H Q
def EvGs (K : PySem.W.Frag) (W : List Nat) (g : TGs) (t : List Tg) : Prop := ∀ ⦃σ : L2.St⦄ ⦃H Z : Hp⦄ ⦃e e' : En⦄ ⦃A : List Addr⦄ ⦃p : List P⦄ ⦃v : List V⦄ (Q : L2.St → Hp → Prop), Ok K Z H σ e A → Rps K Z p v → asTs t p e = some e' →
  (∀ σ' Z' H' A', Stp A Z H Z' H' → Ok K Z' H' σ' e' A' → Sub A H A' → Fix W σ σ' → Q σ' H') → g v σ H Q
structure VG (X : Cx) (W : List Nat) (x : Expr) (t : Tg) : Prop where
  out : ∃ g, PG X x g ∧ EvG X.K W g t
structure VGs (X : Cx) (W : List Nat) (xs : List Expr) (t : List Tg) : Prop where
  out : ∃ g, PGs X xs g ∧ EvGs X.K W g t
theorem vg_name {i : Nat} {y : Str} (hN : X.N.Nodup) (hi : X.N[i]? = some y) (hx : Loc X.env.scope y) (hw : i ∈ W) (hf : X.fn y = true ∨ X.env.scope.names.lookup y = some .local := by first | exact .inl rfl | exact .inr rfl | assumption) : VG X W (.Name y pos) (.n i) := by
  refine ⟨_, pg_name hN hi hx hf, fun σ H Z e e' A p v Q o r q k => ?_⟩
  unfold asT at q
  split at q
  · rename_i hl
    cases q
    obtain ⟨A', w1, w2⟩ := o.set (i := i) (d := .imm p) (F := []) ⟨r, rfl⟩ o.nd (fun _ z => nomatch z) hl
    exact k _ Z H A' (Ex.refl o.zh).stp w1 (fun a ha => .inl (w2 a ha)) (.set hw)
  · cases q
/-- o[i] as a target -/
theorem vg_sub {o i : Expr} {pl : Pl} {fi : EQ} (hu : X.A.units + 1 < cLine) (ho : VP X o pl) (hi : VR X i fi)
    (ha : ∀ v, assign (.Subscript o i pos) X.env v = (do
      let ov ← holding [v] (eval o X.env)
      let iv ← holding [v, ov] (eval i X.env)
      standAt pos
      holding [v, ov, iv] (setItem ov iv v)
      release [v, ov, iv] []) := by intro _; rfl) : VG X W (.Subscript o i pos) (.s pl fi) := by
  obtain ⟨to, h1, h2⟩ := ho.out
  obtain ⟨ti, h3, h4⟩ := hi.out
  refine ⟨_, pg_sub h1 h3 (set_any hu) ha, fun σ H Z e e' A p v Q ok r q k => ?_⟩
  have q' : ((getPl pl e).bind fun d => if d.ty = "" then none else (fi e).bind fun k => (putD d k p).map fun d' => setPl pl d' e) = some e' := by
    unfold asT at q; exact q
  obtain ⟨d, q1, q2⟩ := Option.bind_eq_some_iff.mp q'
  split at q2
  · cases q2
  · rename_i ht
    obtain ⟨kk, q3, q4⟩ := Option.bind_eq_some_iff.mp q2
    obtain ⟨d', q5, q6⟩ := Option.map_eq_some_iff.mp q4
    subst q6
    obtain ⟨v0, F0, w1, w2, w3, _⟩ := focus ok.re q1 ok.nd ok.zh
    obtain ⟨a, e1, e2⟩ := w2.one ht
    subst e1
    subst e2
    refine h2 _ ok q1 fun u hu => ?_
    have e3 := PlAt.det hu w1
    subst e3
    refine h4 _ ok q3 fun Z1 H1 y x1 r1 => ?_
    have o1 := ok.ex x1
    have w2' : RD X.K Z1 H1 d (.ref a) [a] := RD.mono x1.z d _ _ (fun b _ ob hb => x1.h b ob hb) w2
    obtain ⟨u, y1, y2⟩ := put_ok2 x1.zh w2' r1 (Rp.mono x1.z _ _ r) q5
    refine y2 _ ?_
    obtain ⟨A', o', s', b'⟩ := o1.write q1 (fun v F h hh => by
      obtain ⟨b, e1, e2⟩ := h.one ht
      rw [hh] at e1
      cases e1
      exact e2) (w1.mono x1.h) y1 (fun p hp => by rw [hp] at ht; exact ht rfl)
    exact k σ _ _ A' (x1.stp.trans .refl s') o' (x1.sub b') .refl
theorem vgs_nil : VGs X W [] [] := ⟨_, pgs_nil, fun σ H Z e e' A p v Q o r q k => by
  cases p with
  | nil =>
    unfold asTs at q
    cases q
    exact ⟨r, k σ Z H A (Ex.refl o.zh).stp o .refl .refl⟩
  | cons _ _ => unfold asTs at q; cases q⟩
theorem vgs_cons {b : Expr} {bs : List Expr} {u : Tg} {us : List Tg} (h : VG X W b u) (hs : VGs X W bs us) (he : (assignEach (b :: bs) X.env).map (·.2) = assign b X.env :: (assignEach bs X.env).map (·.2) := by rfl) : VGs X W (b :: bs) (u :: us) := by
  obtain ⟨g, h1, h2⟩ := h.out
  obtain ⟨g', h3, h4⟩ := hs.out
  refine ⟨_, pgs_cons h1 h3 he, fun σ H Z e e' A p v Q o r q k => ?_⟩
  cases p with
  | nil => unfold asTs at q; cases q
  | cons p ps =>
    unfold asTs at q
    obtain ⟨e1, q1, q2⟩ := Option.bind_eq_some_iff.mp q
    obtain ⟨w, ws, r1, r2, r3⟩ := r
    refine ⟨w, ws, r1, h2 _ o r2 q1 fun σ1 Z1 H1 A1 s1 o1 b1 f1 => h4 _ o1 (Rps.mono s1.z _ _ r3) q2 fun σ2 Z2 H2 A2 s2 o2 b2 f2 => ?_⟩
    exact k σ2 Z2 H2 A2 (s1.trans b1 s2) o2 (Sub.trans s1 b1 b2) (f1.trans f2)
theorem vg_tup {bs : List Expr} {k n : Nat} {us : List Tg} (hc : X.calm = true) (h : VGs X W bs us) (hl : us.length = n := by rfl) (hn : (assignEach bs X.env).length = n := by rfl) (hst : (assignEach bs X.env).findIdx? (·.1) = none := by rfl) : VG X W (.Tuple bs k pos) (.t us) := by
  obtain ⟨g, h1, h2⟩ := h.out
  refine ⟨_, pg_tup hc h1 hn hst, fun σ H Z e e' A p v Q o r q k => ?_⟩
  cases p with
  | tup b ps =>
    unfold asT at q
    obtain ⟨a, vs, r1, r2, r3⟩ := r
    have ln : ∀ (us : List Tg) (ps : List P) (e : En), asTs us ps e = some e' → us.length = ps.length := by
      intro us
      induction us with
      | nil =>
        intro ps e q
        cases ps with
        | nil => rfl
        | cons _ _ => unfold asTs at q; cases q
      | cons u us ih =>
        intro ps e q
        cases ps with
        | nil => unfold asTs at q; cases q
        | cons p ps =>
          unfold asTs at q
          obtain ⟨e1, q1, q2⟩ := Option.bind_eq_some_iff.mp q
          rw [List.length_cons, List.length_cons, ih ps e1 q2]
    refine ⟨a, vs, r1, Same.seqT o.zh r2.1, ?_, h2 _ o r3 q k⟩
    rw [← r3.length, ← ln us ps e q]
    exact hl
  | _ => unfold asT at q; cases q
def sUnp (t : Tg) (ff : EF) : ES := fun e => (ff e).bind fun q => (asT t q.1 q.2).map .nx
theorem vs_unp {b : Expr} {u : Tg} (hv : VF X a ff) (hg : VG X W b u) (hs : swapsWithSole [b] a pos.line X.env = pure false := by rfl) (hw : swappedStores [b] a X.env = pure none := by rfl)
    (h1 : (assignEach [b] X.env).map (·.2) = [assign b X.env] := by rfl) : VS X W (.Assign [b] a pos) (sUnp u ff) := by
  obtain ⟨t, h2, h3⟩ := hv.out
  obtain ⟨g, h4, h5⟩ := hg.out
  refine ⟨_, ps_asg h2 h4 hs hw h1, fun σ H Z e A o E ok q c => ?_⟩
  unfold sUnp at q
  obtain ⟨⟨p, e1⟩, q1, q2⟩ := Option.bind_eq_some_iff.mp q
  obtain ⟨e2, q3, q4⟩ := Option.map_eq_some_iff.mp q2
  cases q4
  refine h3 _ ok q1 fun Z' H' v A' s' o' b' r => h5 _ o' r q3 fun σ2 Z2 H2 A2 s2 o2 b2 f2 => ?_
  exact c σ2 Z2 H2 A2 (s'.trans b' s2) o2 (Sub.trans s' b' b2) f2
/-! ### for -/
def ItOk (K : PySem.W.Frag) (Z : Hp) (J : It) (l : List P) : Prop := ∀ (Z1 H : Hp) (i : Nat), Same Z Z1 → Same Z1 H → (∀ p, l[i]? = some p → J.go i H ∧ ∀ x H', J.yld i H x H' → ∃ Z', Ex Z1 H Z' H' ∧ Rp K Z' p x) ∧ (l.length = i → J.stop i H)
theorem ItOk.of {K : PySem.W.Frag} {Z : Hp} {J : It} {l : List P} (h : ∀ (H : Hp) (i : Nat), Same Z H → (∀ p, l[i]? = some p → J.go i H ∧ ∀ x H', J.yld i H x H' → H' = H ∧ Rp K Z p x) ∧ (l.length ≤ i → J.stop i H)) : ItOk K Z J l := fun Z1 H i s1 s2 => by
  obtain ⟨h1, h2⟩ := h H i (s1.trans s2)
  refine ⟨fun p hp => ?_, fun z => h2 (Nat.le_of_eq z)⟩
  obtain ⟨g1, g2⟩ := h1 p hp
  refine ⟨g1, fun x H' y => ?_⟩
  obtain ⟨e, r⟩ := g2 x H' y
  subst e
  exact ⟨Z1, .refl s2, Rp.mono s1 _ _ r⟩
abbrev EI := En → Option (List P × En)
def EvI (K : PySem.W.Frag) (w : TI) (f : EI) : Prop := ∀ ⦃σ : L2.St⦄ ⦃H Z : Hp⦄ ⦃e e' : En⦄ ⦃A : List Addr⦄ ⦃l : List P⦄ (R : It → Hp → Prop), Ok K Z H σ e A → f e = some (l, e') →
  (∀ Z' H' A' J, Stp A Z H Z' H' → Ok K Z' H' σ e' A' → Sub A H A' → ItOk K Z' J l → R J H') → w σ H R
structure VI (X : Cx) (tg x : Expr) (f : EI) : Prop where
  out : ∃ w, PI X tg x w ∧ EvI X.K w f
def P.items : P → Option (List P)
  | .lst l => some l
  | .tup _ l => some l
  | _ => none
def iF (ff : EF) : EI := fun e => (ff e).bind fun q => q.1.items.map fun l => (l, q.2)
theorem PI.or {tg x : Expr} {w u : TI} (h : PI X tg x w) (h' : PI X tg x u) : PI X tg x (fun σ H R => w σ H R ∨ u σ H R) := ⟨fun pins s σ H R I q => q.elim (h.run pins s σ H R I) (h'.run pins s σ H R I)⟩
theorem vi_seq {tg : Expr} (h : VF X a ff) : VI X tg a (iF ff) := by
  obtain ⟨t, h1, h2⟩ := h.out
  refine ⟨_, PI.or (pi_list h1) (pi_tup h1), fun σ H Z e e' A l R o q k => ?_⟩
  unfold iF at q
  obtain ⟨⟨p, e1⟩, q1, q2⟩ := Option.bind_eq_some_iff.mp q
  obtain ⟨l', q3, q4⟩ := Option.map_eq_some_iff.mp q2
  cases q4
  cases p with
  | lst l =>
    cases q3
    refine .inl (h2 _ o q1 fun Z' H' v A' s' o' b' r => ?_)
    obtain ⟨a, vs, r1, r2, r3⟩ := r
    refine ⟨a, r1, ⟨vs, SqL.of (s'.zh _ _ r2)⟩, k Z' H' A' _ s' o' b' (.of fun H2 i sm => ⟨fun p hp => ?_, fun hl => ?_⟩)⟩
    · obtain ⟨v', w1, w2⟩ := r3.get hp
      refine ⟨⟨vs, v', SqL.of (sm _ _ r2), w1⟩, fun x H3 y => ⟨y.1, ?_⟩⟩
      have z := y.2 vs (SqL.of (sm _ _ r2))
      rw [w1] at z
      cases z
      exact w2
    · exact ⟨vs, SqL.of (sm _ _ r2), by rw [← r3.length]; exact hl⟩
  | tup b l =>
    cases q3
    refine .inr (h2 _ o q1 fun Z' H' v A' s' o' b' r => ?_)
    obtain ⟨a, vs, r1, r2, r3⟩ := r
    refine ⟨a, r1, ⟨vs, Same.seqT s'.zh r2.1⟩, k Z' H' A' _ s' o' b' (.of fun H2 i sm => ⟨fun p hp => ?_, fun hl => ?_⟩)⟩
    · obtain ⟨v', w1, w2⟩ := r3.get hp
      refine ⟨⟨vs, v', Same.seqT sm r2.1, w1⟩, fun x H3 y => ⟨y.1, ?_⟩⟩
      have z := y.2 vs (Same.seqT sm r2.1)
      rw [w1] at z
      cases z
      exact w2
    · exact ⟨vs, Same.seqT sm r2.1, by rw [← r3.length]; exact hl⟩
  | _ => cases q3
/-- the numbers lo, lo + 1, .. -/
def rgP (lo : Int) (n : Nat) : List P := (List.range n).map fun (i : Nat) => .int (lo + (i : Int))
theorem rg_ok {K : PySem.W.Frag} {Z : Hp} (lo : Int) (n : Nat) : ItOk K Z (Itr lo n) (rgP lo n) := .of fun H i _ => by
  refine ⟨fun p hp => ?_, fun hl => ?_⟩
  · unfold rgP at hp
    rw [List.getElem?_map] at hp
    cases q : (List.range n)[i]? with
    | none => rw [q] at hp; cases hp
    | some j =>
      rw [q] at hp
      cases hp
      obtain ⟨h1, h2⟩ := List.getElem?_eq_some_iff.mp q
      rw [List.getElem_range] at h2
      subst h2
      rw [List.length_range] at h1
      exact ⟨h1, fun x H' y => ⟨y.1, y.2⟩⟩
  · unfold rgP at hl
    rw [List.length_map, List.length_range] at hl
    exact hl
def iR1 (g : En → Option (List P × En)) : EI := fun e => (g e).bind fun q => match q.1 with
  | [.int j] => if -(4611686018427387904 : Int) ≤ j ∧ j < 4611686018427387904 then some (rgP 0 j.toNat, q.2) else none
  | _ => none
def iR2 (g : En → Option (List P × En)) : EI := fun e => (g e).bind fun q => match q.1 with
  | [.int i, .int j] => if (-(4611686018427387904 : Int) ≤ i ∧ i < 4611686018427387904) ∧ (-(4611686018427387904 : Int) ≤ j ∧ j < 4611686018427387904) then some (rgP i (j - i).toNat, q.2) else none
  | _ => none
theorem vi_range1 {tg : Expr} {gg : En → Option (List P × En)} {p : Pos} (hg : Gl X "range") (hm : X.mg "range" = none) (h : VFs X [a] gg) (hs : starEach [a] X.env = [(false, eval a X.env)] := by rfl) : VI X tg (.Call (.Name "range" p) [a] [] pos) (iR1 gg) := by
  obtain ⟨t, h1, h2⟩ := h.out
  refine ⟨_, pi_range1 hg hm h1 hs, fun σ H Z e e' A l R o q k => ?_⟩
  unfold iR1 at q
  obtain ⟨⟨ps, e1⟩, q1, q2⟩ := Option.bind_eq_some_iff.mp q
  dsimp only at q2
  split at q2
  · split at q2
    · rename_i j hj
      cases q2
      refine h2 _ o q1 fun Z' H' vs A' s' o' b' r => ?_
      obtain ⟨v, r0, r1, r2, r3⟩ := r
      cases r2
      rw [show r0 = [] from r3] at r1
      exact ⟨j, r1, by omega, by omega, k Z' H' A' _ s' o' b' (rg_ok 0 _)⟩
    · cases q2
  · cases q2
theorem vi_range2 {tg b : Expr} {gg : En → Option (List P × En)} {p : Pos} (hg : Gl X "range") (hm : X.mg "range" = none) (h : VFs X [a, b] gg) (hs : starEach [a, b] X.env = [(false, eval a X.env), (false, eval b X.env)] := by rfl) (hs2 : starEach [b] X.env = [(false, eval b X.env)] := by rfl) : VI X tg (.Call (.Name "range" p) [a, b] [] pos) (iR2 gg) := by
  obtain ⟨t, h1, h2⟩ := h.out
  refine ⟨_, pi_range2 hg hm h1 hs hs2, fun σ H Z e e' A l R o q k => ?_⟩
  unfold iR2 at q
  obtain ⟨⟨ps, e1⟩, q1, q2⟩ := Option.bind_eq_some_iff.mp q
  dsimp only at q2
  split at q2
  · split at q2
    · rename_i i j hj
      cases q2
      refine h2 _ o q1 fun Z' H' vs A' s' o' b' r => ?_
      obtain ⟨v, r0, r1, r2, r3⟩ := r
      obtain ⟨v2, r4, r5, r6, r7⟩ := r3
      cases r2
      cases r6
      rw [show r4 = [] from r7] at r5
      exact ⟨i, j, by rw [r1, r5], ⟨by omega, by omega, by omega, by omega⟩, k Z' H' A' _ s' o' b' (rg_ok i _)⟩
    · cases q2
  · cases q2
def forE (u : Tg) (body : ES) : List P → ES
  | [], e => some (.nx e)
  | p :: l, e => (asT u p e).bind fun e1 => (body e1).bind fun o => match o with
    | .nx e2 => forE u body l e2
    | .ct e2 => forE u body l e2
    | .bk e2 => some (.nx e2)
    | .rt d e2 => some (.rt d e2)
def sFor (u : Tg) (fi : EI) (body : ES) : ES := fun e => (fi e).bind fun q => forE u body q.1 q.2
theorem vs_for {tg iter : Expr} {body : List Stmt} {u : Tg} {fi : EI} (hp : PassesOwn (model X.prog X.w) X.A X.env X.xe) (hc : X.calm = true) (hi : VI X tg iter fi) (hg : VG X W tg u) (hb : VSs X W body f)
    (hs : ∀ x, foldedSetIterable iter X.env x = pure x := by intro _; rfl) : VS X W (.For tg iter body [] pos) (sFor u fi f) := by
  obtain ⟨w, h1, h2⟩ := hi.out
  obtain ⟨g, h3, h4⟩ := hg.out
  obtain ⟨tb, h5, h6⟩ := hb.out
  refine ⟨_, ps_for hp hc h1 h3 h5 hs, fun σ H Z e A o E ok q c => ?_⟩
  unfold sFor at q
  obtain ⟨⟨l, e1⟩, q1, q2⟩ := Option.bind_eq_some_iff.mp q
  refine h2 _ ok q1 fun Z1 H1 A1 J s1 o1 b1 it => ?_
  refine ⟨fun i m σ' H' => m = l.length - i ∧ i ≤ l.length ∧ ∃ Z' e' A', Stp A Z H Z' H' ∧ Same Z1 Z' ∧ Ok X.K Z' H' σ' e' A' ∧ Sub A H A' ∧ Fix W σ σ' ∧ forE u f (l.drop i) e' = some o, ⟨_, rfl, Nat.zero_le _, Z1, e1, A1, s1, .refl _, o1, b1, .refl, q2⟩, ?_⟩
  rintro i m σ' H' ⟨rfl, hi, Z', e', A', s', z', o', b', f', q'⟩
  by_cases hlt : i < l.length
  · have ed : l.drop i = l[i] :: l.drop (i + 1) := List.drop_eq_getElem_cons hlt
    rw [ed] at q'
    unfold forE at q'
    obtain ⟨e2, q3, q4⟩ := Option.bind_eq_some_iff.mp q'
    obtain ⟨o2, q5, q6⟩ := Option.bind_eq_some_iff.mp q4
    obtain ⟨g1, g2⟩ := (it Z' H' i z' o'.zh).1 l[i] (by simp [hlt])
    refine .inr ⟨g1, fun σ2 H2 => (∃ Z2 e2 A2, Stp A Z H Z2 H2 ∧ Same Z1 Z2 ∧ Ok X.K Z2 H2 σ2 e2 A2 ∧ Sub A H A2 ∧ Fix W σ σ2 ∧ forE u f (l.drop (i + 1)) e2 = some o), ?_, ?_⟩
    · rintro σ2 H2 ⟨Z2, e2, A2, w1, w2, w3, w4, w5, w6⟩
      exact ⟨l.length - (i + 1), by omega, rfl, hlt, Z2, e2, A2, w1, w2, w3, w4, w5, w6⟩
    · intro x H2 y
      obtain ⟨Zn, xn, y2⟩ := g2 x H2 y
      have s' := s'.trans b' (xn.stp (A := A'))
      have z' := z'.trans xn.z
      refine h4 _ (o'.ex xn) y2 q3 fun σ2 Z2 H2 A2 s2 o2' b2 f2 => ?_
      have bA2 : Sub A H A2 := Sub.trans s' b' b2
      have sA2 := s'.trans b' s2
      have z' := z'.trans s2.z
      refine h6 _ o2' q5 ?_
      cases o2 with
      | nx e3 =>
        intro σ3 Z3 H3 A3 s3 o3 b3 f3
        exact ⟨Z3, e3, A3, sA2.trans bA2 s3, z'.trans s3.z, o3, Sub.trans sA2 bA2 b3, (f'.trans f2).trans f3, q6⟩
      | ct e3 =>
        intro σ3 Z3 H3 A3 s3 o3 b3 f3
        exact ⟨Z3, e3, A3, sA2.trans bA2 s3, z'.trans s3.z, o3, Sub.trans sA2 bA2 b3, (f'.trans f2).trans f3, q6⟩
      | bk e3 =>
        cases q6
        intro σ3 Z3 H3 A3 s3 o3 b3 f3
        exact c σ3 Z3 H3 A3 (sA2.trans bA2 s3) o3 (Sub.trans sA2 bA2 b3) ((f'.trans f2).trans f3)
      | rt d e3 =>
        cases q6
        intro σ3 Z3 H3 v A3 F s3 o3 r3 nd3 off3 b3 f3
        exact c σ3 Z3 H3 v A3 F (sA2.trans bA2 s3) o3 r3 nd3 off3 (Sub.trans sA2 bA2 b3) ((f'.trans f2).trans f3)
  · have e0 : i = l.length := by omega
    subst e0
    rw [List.drop_length] at q'
    unfold forE at q'
    cases q'
    exact .inl ⟨(it Z' H' _ z' o'.zh).2 rfl, c σ' Z' H' A' s' o' b' f'⟩
/-! ### while -/
def whE (t : ET) (body : ES) : Nat → ES
  | 0, _ => none
  | n + 1, e => (t e).bind fun q => if q.1 = true then (body q.2).bind fun o => match o with
    | .nx e2 => whE t body n e2
    | .ct e2 => whE t body n e2
    | .bk e2 => some (.nx e2)
    | .rt d e2 => some (.rt d e2)
    else some (.nx q.2)
theorem vs_while {c : Expr} {body : List Stmt} (n : Nat) (hp : PassesOwn (model X.prog X.w) X.A X.env X.xe) (hc : VT X c t) (hb : VSs X W body f) : VS X W (.While c body [] pos) (whE t f n) := by
  obtain ⟨tc, h1, h2⟩ := hc.out
  obtain ⟨tb, h5, h6⟩ := hb.out
  refine ⟨_, ps_while hp h1 h5, fun σ H Z e A o E ok q c => ?_⟩
  refine ⟨fun m σ' H' => ∃ Z' e' A', Stp A Z H Z' H' ∧ Ok X.K Z' H' σ' e' A' ∧ Sub A H A' ∧ Fix W σ σ' ∧ whE t f m e' = some o, ⟨n, Z, e, A, (Ex.refl ok.zh).stp, ok, .refl, .refl, q⟩, ?_⟩
  rintro m σ' H' ⟨Z', e', A', s', o', b', f', q'⟩
  cases m with
  | zero => cases q'
  | succ m =>
    unfold whE at q'
    obtain ⟨⟨bb, e1⟩, q1, q2⟩ := Option.bind_eq_some_iff.mp q'
    refine h2 _ o' q1 fun Z1 H1 A1 s1 o1 b1 => ?_
    have sA : Stp A Z H Z1 H1 := s'.trans b' s1
    have bA : Sub A H A1 := Sub.trans s' b' b1
    cases bb with
    | false =>
      rw [if_neg (show ¬ (false = true) by decide)] at q2 ⊢
      cases q2
      exact c σ' Z1 H1 A1 sA o1 bA f'
    | true =>
      rw [if_pos rfl] at q2 ⊢
      obtain ⟨o2, q5, q6⟩ := Option.bind_eq_some_iff.mp q2
      refine ⟨fun σ2 H2 => (∃ Z2 e2 A2, Stp A Z H Z2 H2 ∧ Ok X.K Z2 H2 σ2 e2 A2 ∧ Sub A H A2 ∧ Fix W σ σ2 ∧ whE t f m e2 = some o), fun σ2 H2 w => ⟨m, Nat.lt_succ_self m, w⟩, ?_⟩
      refine h6 _ o1 q5 ?_
      cases o2 with
      | nx e3 =>
        intro σ3 Z3 H3 A3 s3 o3 b3 f3
        exact ⟨Z3, e3, A3, sA.trans bA s3, o3, Sub.trans sA bA b3, f'.trans f3, q6⟩
      | ct e3 =>
        intro σ3 Z3 H3 A3 s3 o3 b3 f3
        exact ⟨Z3, e3, A3, sA.trans bA s3, o3, Sub.trans sA bA b3, f'.trans f3, q6⟩
      | bk e3 =>
        cases q6
        intro σ3 Z3 H3 A3 s3 o3 b3 f3
        exact c σ3 Z3 H3 A3 (sA.trans bA s3) o3 (Sub.trans sA bA b3) (f'.trans f3)
      | rt d e3 =>
        cases q6
        intro σ3 Z3 H3 v A3 F s3 o3 r3 nd3 off3 b3 f3
        exact c σ3 Z3 H3 v A3 F (sA.trans bA s3) o3 r3 nd3 off3 (Sub.trans sA bA b3) (f'.trans f3)
end
end VL
end

section
set_option Elab.async false
set_option linter.all false
set_option maxRecDepth 100000
namespace VL
open PySem PySem.Spec L2

/-! ### a def -/
def finA (W : List Nat) : Nat → List D → En → Option (List D)
  | _, [], _ => some []
  | i, d0 :: ds, e => (if i ∈ W then (match d0 with
      | .imm p => some (D.imm p)
      | _ => none) else (match e[i]? with
      | some (some d) => some d
      | _ => none)).bind fun (d : D) => (finA W (i + 1) ds e).map fun r => d :: r
def runF (np nl : Nat) (W : List Nat) (body : ES) : Fn := fun ds => if ds.length = np then
    match body (ds.map some ++ List.replicate nl none) with
    | some (.rt d e) => (finA W 0 ds e).map fun r => (d, r)
    | some (.nx e) => (finA W 0 ds e).map fun r => (.imm .non, r)
    | _ => none
  else none
theorem finA_set {W : List Nat} {i : Nat} : ∀ (ds : List D) (j : Nat) (e : En), i < j → finA W j ds (e.set i none) = finA W j ds e
  | [], _, _, _ => rfl
  | d :: ds, j, e, h => by
    unfold finA
    rw [finA_set ds (j + 1) e (by omega), List.getElem?_set_ne (by omega)]
section
variable {K : PySem.W.Frag} {Z Z0 H H0 : Hp} {σ : L2.St} {W : List Nat}
theorem fin_ok : ∀ {ds : List D} {vs : List V} {i : Nat} {e : En} {A G0 : List Addr} {ds' : List D}, RDs K Z0 H0 ds vs G0 → Same Z0 Z → Re K Z H e σ A → A.Nodup → (∀ j v, vs[j]? = some v → (i + j) ∉ W → σ[i + j]? = some (some v)) →
    finA W i ds e = some ds' → ∃ G, RDs K Z H ds' vs G ∧ G.Nodup ∧ ∀ a ∈ G, a ∈ A
  | [], _, _, _, _, _, _, h, _, _, _, _, q => by
    cases q
    exact ⟨[], ⟨h.1, rfl⟩, List.nodup_nil, fun _ z => nomatch z⟩
  | d0 :: ds, _, i, e, A, G0, ds', ⟨v, r, F, B, h1, h2, h3, h4⟩, z, he, nd, hv, q => by
    subst h1
    unfold finA at q
    obtain ⟨d, q1, q2⟩ := Option.bind_eq_some_iff.mp q
    obtain ⟨r', q3, q4⟩ := Option.map_eq_some_iff.mp q2
    subst q4
    have hv' : ∀ j w, r[j]? = some w → (i + 1 + j) ∉ W → σ[i + 1 + j]? = some (some w) := fun j w hw hn => by
      have e1 : i + 1 + j = i + (j + 1) := by omega
      rw [e1] at hn ⊢
      exact hv (j + 1) w (by simpa using hw) hn
    split at q1
    · split at q1
      · cases q1
        obtain ⟨G, w1, w2, w3⟩ := fin_ok h4 z he nd hv' q3
        exact ⟨[] ++ G, ⟨v, r, [], G, rfl, rfl, ⟨Rp.mono z _ _ h3.1, rfl⟩, w1⟩, w2, w3⟩
      · cases q1
    · rename_i hw
      have hi := hv 0 v rfl hw
      rw [Nat.add_zero] at hi
      split at q1
      · rename_i d' hd
        cases q1
        obtain ⟨v', F', B', g1, g2, g3, g4, g5⟩ := he.out hd nd
        rw [hi] at g1
        cases g1
        have g4' := g4
        rw [List.nodup_append] at g4'
        rw [← finA_set ds (i + 1) e (Nat.lt_succ_self i)] at q3
        obtain ⟨G, w1, w2, w3⟩ := fin_ok h4 z g3 g4'.2.1 hv' q3
        refine ⟨F' ++ G, ⟨v, r, F', G, rfl, rfl, g2, w1⟩, ?_, fun a ha => ?_⟩
        · rw [List.nodup_append]
          exact ⟨g4'.1, w2, fun a ha b hb e => g4'.2.2 a ha b (w3 b hb) e⟩
        · rcases List.mem_append.mp ha with w | w
          · exact g5 a (List.mem_append_left _ w)
          · exact g5 a (List.mem_append_right _ (w3 a w))
      · cases q1
theorem re_start (n : Nat) : ∀ {ds : List D} {vs : List V} {G : List Addr}, RDs K Z H ds vs G → Re K Z H (ds.map some ++ List.replicate n none) (vs.map some ++ List.replicate n none) G
  | [], _, _, h => by
    rw [h.1, h.2]
    induction n with
    | zero => exact ⟨rfl, rfl⟩
    | succ n ih => exact ⟨none, _, rfl, ih⟩
  | d :: ds, _, _, ⟨v, r, F, B, h1, h2, h3, h4⟩ => by
    rw [h1, h2]
    exact ⟨v, _, F, B, rfl, rfl, h3, re_start n h4⟩
theorem RDs.len : ∀ {ds : List D} {vs : List V} {G : List Addr}, RDs K Z H ds vs G → ds.length = vs.length
  | [], _, _, h => by rw [h.1]; rfl
  | d :: ds, _, _, ⟨v, r, F, B, h1, h2, h3, h4⟩ => by rw [h1, List.length_cons, List.length_cons, RDs.len h4]
end
theorem fnV {P : Program} {w : World} {K : PySem.W.Frag} {mg : Str → Option Value} {base : Heap} {x qual : Str} {params : Arguments} {body : List Stmt} {scope : Scope} {dvs : List V} {kws : List (Str × V)} {f : Addr} {fd : FuncData} {N ps : List Str} {k : Nat} {W : List Nat} {g : ES}
    (F : FunD K x qual params body scope dvs kws f fd) (S : FnScope N ps scope)
    (hb : ∀ (cdv : Value) (A : Around) (outer : List Env) (s : Shared) (H : Hp) (E : XK), Room k (A.deeper (PyProof.Rows.envOfC qual scope s.heap.objs.size f cdv)) → VSs (cxOf CX0 P w K mg base N qual scope f cdv A outer s H E).nox W body g) :
    FnOk P w K mg base CX0 (k + 1) f fd ps (spV K (runF ps.length (N.length - ps.length) W g)) := by
  refine F.ok S (fun vs H Q E h => ?_) (fun cdv A outer s H vs Q E hr h => ?_)
  · obtain ⟨Z, ds, G, r, ds', _, h2, _, _, h5, _⟩ := h
    unfold runF at h5
    split at h5
    · rename_i hl
      rw [← h2.len]
      exact hl
    · cases h5
  · obtain ⟨Z, ds, G, r, ds', h1, h2, h3, h4, h5, h6⟩ := h
    obtain ⟨t, t1, t2⟩ := (hb cdv A outer s H E hr).out
    refine ⟨t, PSs.nox t1, ?_⟩
    unfold runF at h5
    split at h5
    · rename_i hl
      have lv : vs.length = ps.length := by rw [← h2.len]; exact hl
      have ok : Ok K Z H (L2.start N vs) (ds.map some ++ List.replicate (N.length - ps.length) none) G := by
        refine ⟨h1, ?_, h3, h4⟩
        unfold L2.start
        rw [lv]
        exact re_start _ h2
      have hσ : ∀ (σ' : L2.St), Fix W (L2.start N vs) σ' → ∀ j v, vs[j]? = some v → (0 + j) ∉ W → σ'[0 + j]? = some (some v) := fun σ' fx j v hv hn => by
        rw [fx (0 + j) hn, Nat.zero_add]
        unfold L2.start
        obtain ⟨hj, _⟩ := List.getElem?_eq_some_iff.mp hv
        rw [List.getElem?_append_left (by rw [List.length_map]; exact hj), List.getElem?_map, hv]
        rfl
      split at h5
      · rename_i d e hd
        obtain ⟨r', g1, g2⟩ := Option.map_eq_some_iff.mp h5
        cases g2
        refine t2 _ ok hd fun σ' Z' H' v A' F' st ok' rd nd off sb fx => ?_
        obtain ⟨G', w1, w2, w3⟩ := fin_ok h2 st.z ok'.re ok'.nd (hσ σ' fx) g1
        rw [List.nodup_append] at nd
        refine h6 Z' H' v G' F' st w1 rd ?_ (fun a ha => ?_) (fun a ha => ?_)
        · rw [List.nodup_append]
          exact ⟨nd.1, w2, fun a ha b hb => nd.2.2 a ha b (w3 b hb)⟩
        · rcases List.mem_append.mp ha with z | z
          · exact off a z
          · exact ok'.off a (w3 a z)
        · rcases List.mem_append.mp ha with z | z
          · exact sb a (List.mem_append_left _ z)
          · exact sb a (List.mem_append_right _ (w3 a z))
      · rename_i e hd
        obtain ⟨r', g1, g2⟩ := Option.map_eq_some_iff.mp h5
        cases g2
        refine t2 _ ok hd fun σ' Z' H' A' st ok' sb fx => ?_
        obtain ⟨G', w1, w2, w3⟩ := fin_ok h2 st.z ok'.re ok'.nd (hσ σ' fx) g1
        exact h6 Z' H' .non G' [] st w1 ⟨rfl, rfl⟩ w2 (fun a ha => ok'.off a (w3 a ha)) fun a ha => sb a (w3 a ha)
      · cases h5
    · cases h5
/-- the law's own def -/
theorem spV_law {K : PySem.W.Frag} {fn : Fn} {n : Nat} (h : ∀ ns : List Int, ns.length ≤ n → ∃ ds', fn [.imm (.scr ns)] = some (.imm (.bl true), ds')) (H : Hp) (a : Addr) (ns : List Int) (hl : ns.length ≤ n) (hS : SqL K H a (ns.map V.int)) :
    spV K fn [.ref a] H (fun v _ => v = .bl true) fun _ _ _ => False := by
  obtain ⟨ds', e⟩ := h ns hl
  refine ⟨H, [.imm (.scr ns)], [], .imm (.bl true), ds', .refl _, ⟨_, [], [], [], rfl, rfl, ⟨⟨a, rfl, hS⟩, rfl⟩, ⟨rfl, rfl⟩⟩, List.nodup_nil, fun _ z => (nomatch z), e, fun Z' H' v G' F _ _ r _ _ _ => r.1⟩

end VL
end

section
set_option Elab.async false
set_option linter.all false
set_option maxRecDepth 100000
namespace VL
open PySem PySem.Spec L2

/-! ### methods that change what stands at a place -/
/-- a method by data -/
def MtW (K : PySem.W.Frag) (r : V → List V → Hp → VK → Prop) (g : D → List P → Option (P × D)) : Prop :=
  ∀ ⦃H Z : Hp⦄ ⦃a : Addr⦄ ⦃vs : List V⦄ ⦃d d' : D⦄ ⦃ps : List P⦄ ⦃z : P⦄, Same Z H → RD K Z H d (.ref a) [a] → Z a = none → Rps K Z ps vs → g d ps = some (z, d') →
    ∃ u, RD K Z (upd H a u) d' (.ref a) [a] ∧ ∀ Q : VK, (∀ v, Rp K Z z v → Q v (upd H a u)) → r (.ref a) vs H Q
def dMt (T : String) (pl : Pl) (g : D → List P → Option (P × D)) (ff : En → Option (List P × En)) : ED := fun e => (getPl pl e).bind fun d0 => if d0.ty = T then (ff e).bind fun q => (getPl pl q.2).bind fun d => if d.ty = T then (g d q.1).map fun r => (.imm r.1, setPl pl r.2 q.2) else none else none
section
variable {X : Cx} {o x : Expr} {xs : List Expr} {pl : Pl} {T : String} {name : Str} {id : String} {r : V → List V → Hp → VK → Prop} {g : D → List P → Option (P × D)} {ff : En → Option (List P × En)} {f : En → Option (List P)} {apos cpos pos : Pos}
/-- the end of such a call -/
theorem mt_end {Z0 H0 Z H : Hp} {σ : L2.St} {e : En} {A0 A : List Addr} {d d' : D} {ps : List P} {vs : List V} {z : P} {a : Addr} {Q : VK} (hm : MtW X.K r g) (hT : T ≠ "") (s0 : Stp A0 Z0 H0 Z H) (o : Ok X.K Z H σ e A) (b0 : Sub A0 H0 A) (pv : Rps X.K Z ps vs)
    (q : getPl pl e = some d) (ht : d.ty = T) (hv : PlAt X.K H σ pl (.ref a)) (qg : g d ps = some (z, d'))
    (k : ∀ Z' H' v A' F, Stp A0 Z0 H0 Z' H' → Ok X.K Z' H' σ (setPl pl d' e) A' → RD X.K Z' H' (.imm z) v F → (F ++ A').Nodup → (∀ a ∈ F, Z' a = none) → Sub A0 H0 (F ++ A') → Q v H') : r (.ref a) vs H Q := by
  have hne : d.ty ≠ "" := by rw [ht]; exact hT
  obtain ⟨v0, F0, w1, w2, w3, _⟩ := focus o.re q o.nd o.zh
  obtain ⟨b, e1, e2⟩ := w2.one hne
  have e3 := PlAt.det hv w1
  rw [e1] at e3
  cases e3
  subst e1
  subst e2
  have za : Z a = none := o.off a (w3 a List.mem_cons_self)
  obtain ⟨u, y1, y2⟩ := hm o.zh w2 za pv qg
  refine y2 Q fun v rv => ?_
  obtain ⟨A', o', s', b'⟩ := o.write q (fun v F h hh => by
    obtain ⟨b, e1, e2⟩ := h.one hne
    rw [hh] at e1
    cases e1
    exact e2) hv y1 (fun p hp => by rw [hp] at hne; exact hne rfl)
  exact k Z _ v A' [] (s0.trans b0 s') o' ⟨rv, rfl⟩ o'.nd (fun _ h => nomatch h) (Sub.trans s0 b0 b')
/-- x.m(..), x a variable -/
theorem vd_mt (i : Nat) {y : Str} (pa : PlainAttrs T) (slot : Slot T name id) (hty : typeOf (.builtin id) = pure (.type "method_descriptor")) (hr : MtR X id r) (hm : MtW X.K r g) (hx : PE X (.Name y pos) (tVar i)) (ha : VFs X (x :: xs) ff) (hT : T ≠ "" := by decide)
    (hbase : attributeBase (.Name y pos) name X.env (eval (.Name y pos) X.env) = eval (.Name y pos) X.env := by rfl)
    (hfew : ((backTo cpos (starEach (x :: xs) X.env)).all (fun x => !x.1) && (backToKw cpos (keywordEach [] X.env)).all (fun x => x.1.isSome)
      && decide ((x :: xs).length + ([] : List Keyword).length + (if ([] : List Keyword).isEmpty then 0 else 1) < 30)) = true := by rfl)
    (hline : (apos.endLine == cpos.line) = true := by rfl) (hs : starEach (x :: xs) X.env = (false, eval x X.env) :: starEach xs X.env := by rfl) (hplain : (backTo cpos (starEach xs X.env)).any (·.1) = false := by rfl) :
    VD X (.Call (.Attribute (.Name y pos) name apos) (x :: xs) [] cpos) (dMt T (.v i) g ff) := by
  obtain ⟨t, h1, h2⟩ := ha.out
  refine ⟨_, pe_bm pa slot hty hr hx h1 hbase hfew hline hs hplain, fun σ H Z e e' A d Q o q k => ?_⟩
  unfold dMt at q
  obtain ⟨d0, q0, q⟩ := Option.bind_eq_some_iff.mp q
  split at q
  · rename_i ht0
    obtain ⟨⟨ps, e1⟩, q1, q⟩ := Option.bind_eq_some_iff.mp q
    obtain ⟨d1, q2, q⟩ := Option.bind_eq_some_iff.mp q
    dsimp only at q2 q
    split at q
    · rename_i ht1
      obtain ⟨⟨z, d'⟩, q3, q4⟩ := Option.map_eq_some_iff.mp q
      cases q4
      obtain ⟨v0, F0, w1, w2, _⟩ := focus o.re q0 o.nd o.zh
      obtain ⟨a, e2, e3⟩ := w2.one (by rw [ht0]; exact hT)
      subst e2
      refine ⟨.ref a, w1, w2.tyV ht0 hT, h2 _ o q1 fun Z1 H1 vs A1 s1 o1 b1 r1 => ?_⟩
      exact mt_end hm hT s1 o1 b1 r1 q2 ht1 w1 q3 k
    · cases q
  · cases q
/-- o.m(..), o a place, what is handed in changes nothing -/
theorem vd_mtQ (pa : PlainAttrs T) (slot : Slot T name id) (hty : typeOf (.builtin id) = pure (.type "method_descriptor")) (hr : MtR X id r) (hm : MtW X.K r g) (hx : VP X o pl) (ha : VQs X (x :: xs) f) (hT : T ≠ "" := by decide)
    (hbase : attributeBase o name X.env (eval o X.env) = eval o X.env := by rfl)
    (hfew : ((backTo cpos (starEach (x :: xs) X.env)).all (fun x => !x.1) && (backToKw cpos (keywordEach [] X.env)).all (fun x => x.1.isSome)
      && decide ((x :: xs).length + ([] : List Keyword).length + (if ([] : List Keyword).isEmpty then 0 else 1) < 30)) = true := by rfl)
    (hline : (apos.endLine == cpos.line) = true := by rfl) (hs : starEach (x :: xs) X.env = (false, eval x X.env) :: starEach xs X.env := by rfl) (hplain : (backTo cpos (starEach xs X.env)).any (·.1) = false := by rfl) :
    VD X (.Call (.Attribute o name apos) (x :: xs) [] cpos) (dMt T pl g fun e => (f e).map fun ps => (ps, e)) := by
  obtain ⟨t, h1, h2⟩ := ha.out
  obtain ⟨to, h3, h4⟩ := hx.out
  refine ⟨_, pe_bm pa slot hty hr h3 h1 hbase hfew hline hs hplain, fun σ H Z e e' A d Q o q k => ?_⟩
  unfold dMt at q
  obtain ⟨d0, q0, q⟩ := Option.bind_eq_some_iff.mp q
  split at q
  · rename_i ht0
    obtain ⟨⟨ps, e1⟩, q1, q⟩ := Option.bind_eq_some_iff.mp q
    obtain ⟨ps', q5, q6⟩ := Option.map_eq_some_iff.mp q1
    cases q6
    obtain ⟨d1, q2, q⟩ := Option.bind_eq_some_iff.mp q
    dsimp only at q2 q
    split at q
    · rename_i ht1
      obtain ⟨⟨z, d'⟩, q3, q4⟩ := Option.map_eq_some_iff.mp q
      cases q4
      obtain ⟨v0, F0, w1, w2, _⟩ := focus o.re q0 o.nd o.zh
      obtain ⟨a, e2, e3⟩ := w2.one (by rw [ht0]; exact hT)
      subst e2
      refine h4 _ o q0 fun v hv => ?_
      have e4 := PlAt.det hv w1
      subst e4
      refine ⟨w2.tyV ht0 hT, h2 _ o q5 fun Z1 H1 vs x1 r1 => ?_⟩
      exact mt_end hm hT x1.stp (o.ex x1) .refl r1 q2 ht1 (w1.mono x1.h) q3 k
    · cases q
  · cases q
/-- o.m() -/
theorem vd_mt0 (pa : PlainAttrs T) (slot : Slot T name id) (hty : typeOf (.builtin id) = pure (.type "method_descriptor")) (hr : MtR X id r) (hm : MtW X.K r g) (hx : VP X o pl) (hT : T ≠ "" := by decide)
    (hbase : attributeBase o name X.env (eval o X.env) = eval o X.env := by rfl) (hline : (apos.endLine == cpos.line) = true := by rfl) :
    VD X (.Call (.Attribute o name apos) [] [] cpos) (dMt T pl g fun e => some ([], e)) := by
  obtain ⟨to, h3, h4⟩ := hx.out
  refine ⟨_, pe_bm0 pa slot hty hr h3 hbase (hline := hline), fun σ H Z e e' A d Q o q k => ?_⟩
  unfold dMt at q
  obtain ⟨d0, q0, q⟩ := Option.bind_eq_some_iff.mp q
  split at q
  · rename_i ht0
    obtain ⟨⟨ps, e1⟩, q1, q⟩ := Option.bind_eq_some_iff.mp q
    cases q1
    obtain ⟨d1, q2, q⟩ := Option.bind_eq_some_iff.mp q
    dsimp only at q2 q
    split at q
    · rename_i ht1
      obtain ⟨⟨z, d'⟩, q3, q4⟩ := Option.map_eq_some_iff.mp q
      cases q4
      obtain ⟨v0, F0, w1, w2, _⟩ := focus o.re q0 o.nd o.zh
      obtain ⟨a, e2, e3⟩ := w2.one (by rw [ht0]; exact hT)
      subst e2
      refine h4 _ o q0 fun v hv => ?_
      have e4 := PlAt.det hv w1
      subst e4
      exact ⟨w2.tyV ht0 hT, mt_end hm hT (Ex.refl o.zh).stp o .refl (vs := []) (show Rps X.K Z [] [] from rfl) q2 ht1 w1 q3 k⟩
    · cases q
  · cases q
end
section
variable {K : PySem.W.Frag} {X : Cx}
def gApp : D → List P → Option (P × D)
  | .lst l, [p] => if l.length < sizeLine then some (.non, .lst (l ++ [p])) else none
  | _, _ => none
def gPop : D → List P → Option (P × D)
  | .lst l, [] => (l[l.length - 1]?).map fun y => (y, .lst l.dropLast)
  | _, _ => none
def gExt : D → List P → Option (P × D)
  | .lst l, [.lst m] => if l.length + m.length ≤ sizeLine then some (.non, .lst (l ++ m)) else none
  | _, _ => none
theorem Rps.dropLast {Z : Hp} {l : List P} {vs : List V} (h : Rps K Z l vs) : Rps K Z l.dropLast vs.dropLast := by
  rw [List.dropLast_eq_take, List.dropLast_eq_take, ← h.length]
  exact h.take _
theorem mw_append : MtW K rAppend gApp := fun H Z a vs d d' ps z s h za hv q => by
  unfold gApp at q
  split at q
  · rename_i l p
    split at q
    · rename_i hl
      cases q
      obtain ⟨b, us, e1, _, e3, e4⟩ := h
      cases e1
      obtain ⟨v, r, e5, e6, e7⟩ := hv
      rw [show r = [] from e7] at e5
      subst e5
      exact ⟨.lst (us ++ [v]), ⟨a, _, rfl, rfl, upd_same, e4.append (Rps.singleton e6)⟩, fun Q k => ⟨a, us, v, rfl, rfl, e3, by rw [← e4.length]; exact hl, k .non rfl⟩⟩
    · cases q
  · cases q
theorem mw_pop : MtW K rPop gPop := fun H Z a vs d d' ps z s h za hv q => by
  unfold gPop at q
  split at q
  · rename_i l
    obtain ⟨y, q1, q2⟩ := Option.map_eq_some_iff.mp q
    cases q2
    obtain ⟨b, us, e1, _, e3, e4⟩ := h
    cases e1
    rw [show vs = [] from hv]
    obtain ⟨v, w1, w2⟩ := e4.get q1
    rw [e4.length] at w1
    exact ⟨.lst us.dropLast, ⟨a, _, rfl, rfl, upd_same, e4.dropLast⟩, fun Q k => ⟨a, us, v, rfl, rfl, e3, w1, k v w2⟩⟩
  · cases q
theorem mw_extend : MtW K rExtend gExt := fun H Z a vs d d' ps z s h za hv q => by
  unfold gExt at q
  split at q
  · rename_i l m
    split at q
    · rename_i hl
      cases q
      obtain ⟨b, us, e1, _, e3, e4⟩ := h
      cases e1
      obtain ⟨v, r, e5, ⟨c, ws, f1, f2, f3⟩, e7⟩ := hv
      rw [show r = [] from e7] at e5
      subst f1
      subst e5
      exact ⟨.lst (us ++ ws), ⟨a, _, rfl, rfl, upd_same, e4.append f3⟩, fun Q k => ⟨a, c, us, ws, rfl, rfl, e3, s _ _ f2, by rw [← e4.length, ← f3.length]; exact hl, k .non rfl⟩⟩
    · cases q
  · cases q
end
end VL
end

section
set_option Elab.async false
set_option linter.all false
set_option maxRecDepth 100000
namespace VL
open PySem PySem.Spec L2

/-! ### several things, put together and apart -/
section
variable {K : PySem.W.Frag} {Z H : Hp}
theorem RDs.append : ∀ {l l' : List D} {vs vs' : List V} {B B' : List Addr}, RDs K Z H l vs B → RDs K Z H l' vs' B' → RDs K Z H (l ++ l') (vs ++ vs') (B ++ B')
  | [], _, _, _, _, _, h, h' => by rw [h.1, h.2]; exact h'
  | d :: l, _, _, _, _, _, ⟨v, r, F, B, h1, h2, h3, h4⟩, h' => by
    rw [h1, h2]
    exact ⟨v, _, F, _, rfl, by rw [List.append_assoc], h3, RDs.append h4 h'⟩
theorem RDs.imms : ∀ {ps : List P} {vs : List V}, Rps K Z ps vs → RDs K Z H (ps.map .imm) vs []
  | [], _, h => ⟨h, rfl⟩
  | p :: ps, _, ⟨v, r, h1, h2, h3⟩ => ⟨v, r, [], [], h1, rfl, ⟨h2, rfl⟩, RDs.imms h3⟩
theorem RDs.split : ∀ {l : List D} {vs us : List V} {G : List Addr}, RDs K Z H l (vs ++ us) G → ∃ G1 G2, RDs K Z H (l.take vs.length) vs G1 ∧ RDs K Z H (l.drop vs.length) us G2 ∧ G = G1 ++ G2
  | l, [], us, G, h => ⟨[], G, by simp [RDs], by simpa using h, rfl⟩
  | [], v :: vs, us, G, h => by cases h.1
  | d :: l, v :: vs, us, G, ⟨w, r, F, B, h1, h2, h3, h4⟩ => by
    cases h1
    obtain ⟨G1, G2, q1, q2, q3⟩ := RDs.split h4
    exact ⟨F ++ G1, G2, ⟨v, vs, F, G1, rfl, rfl, h3, q1⟩, q2, by rw [h2, q3, List.append_assoc]⟩
theorem RDs.setAt : ∀ {l : List D} {vs : List V} {B F : List Addr} {j : Nat} {d : D} {y : V}, RDs K Z H l vs B → RD K Z H d y F → (F ++ B).Nodup → j < l.length →
    ∃ B', RDs K Z H (l.set j d) (vs.set j y) B' ∧ B'.Nodup ∧ ∀ a ∈ B', a ∈ F ∨ a ∈ B
  | [], _, _, _, _, _, _, _, _, _, hj => absurd hj (Nat.not_lt_zero _)
  | d0 :: l, _, _, F, 0, d, y, ⟨v0, r, F0, B, h1, h2, h3, h4⟩, hd, nd, _ => by
    subst h2
    exact ⟨F ++ B, ⟨y, r, F, B, by rw [h1]; rfl, rfl, hd, h4⟩, nd_sub nd, fun a ha => (List.mem_append.mp ha).imp id fun z => List.mem_append_right _ z⟩
  | d0 :: l, _, _, F, j + 1, d, y, ⟨v0, r, F0, B, h1, h2, h3, h4⟩, hd, nd, hj => by
    subst h2
    obtain ⟨B', q1, q2, q3⟩ := RDs.setAt (j := j) h4 hd (nd_sub nd) (Nat.lt_of_succ_lt_succ hj)
    rw [List.nodup_append] at nd
    obtain ⟨n1, n2, n3⟩ := nd
    rw [List.nodup_append] at n2
    refine ⟨F0 ++ B', ⟨v0, r.set j y, F0, B', by rw [h1]; rfl, rfl, h3, q1⟩, ?_, fun a ha => ?_⟩
    · rw [List.nodup_append]
      refine ⟨n2.1, q2, fun a ha b hb e => ?_⟩
      subst e
      rcases q3 a hb with z | z
      · exact n3 a z a (List.mem_append_left _ ha) rfl
      · exact n2.2.2 a ha a z rfl
    · rcases List.mem_append.mp ha with z | z
      · exact .inr (List.mem_append_left _ z)
      · exact (q3 a z).imp id fun z => List.mem_append_right _ z
end
/-! ### o.f = e -/
def D.putFl (f : Str) (d : D) : D → Option D
  | .obj c fs l => if fs.length < 1000 then (match ixF f fs with
    | some j => some (.obj c fs (l.set j d))
    | none => some (.obj c (fs ++ [f]) (l ++ [d]))) else none
  | _ => none
theorem putF_ix (f : Str) (v : V) : ∀ vfs : List (Str × V), match ixF f (vfs.map (·.1)) with
    | some j => (putF f v vfs).map (·.1) = vfs.map (·.1) ∧ (putF f v vfs).map (·.2) = (vfs.map (·.2)).set j v ∧ j < vfs.length
    | none => (putF f v vfs).map (·.1) = vfs.map (·.1) ++ [f] ∧ (putF f v vfs).map (·.2) = vfs.map (·.2) ++ [v]
  | [] => ⟨rfl, rfl⟩
  | (g, x) :: r => by
    have ih := putF_ix f v r
    rw [List.map_cons]
    unfold ixF putF
    by_cases q : g = f
    · rw [if_pos q, if_pos q]
      exact ⟨rfl, rfl, Nat.zero_lt_succ _⟩
    · rw [if_neg q, if_neg q]
      cases e : ixF f (r.map (·.1)) with
      | none =>
        rw [e] at ih
        exact ⟨by rw [List.map_cons, ih.1]; rfl, by rw [List.map_cons, ih.2]; rfl⟩
      | some j =>
        rw [e] at ih
        exact ⟨by rw [List.map_cons, ih.1], by rw [List.map_cons, ih.2.1]; rfl, Nat.succ_lt_succ ih.2.2⟩
theorem RDs.lenE {K : PySem.W.Frag} {Z H : Hp} {ds : List D} {vs : List V} {G : List Addr} (h : RDs K Z H ds vs G) : ds.length = vs.length := RDs.len h
theorem putFl_ok {K : PySem.W.Frag} {Z H : Hp} {d d0 d1 : D} {a : Addr} {F F0 : List Addr} {y : V} {f : Str} (h0 : RD K Z H d0 (.ref a) F0) (n0 : F0.Nodup) (h : RD K Z H d y F) (nd : (F ++ F0).Nodup) (e : D.putFl f d d0 = some d1) :
    ∃ c dx vfs F1, H a = some (.ins (He.ga K c) dx vfs) ∧ vfs.length < 1000 ∧ (∃ fs l, d0 = .obj c fs l) ∧ a ∈ F0 ∧ RD K Z (upd H a (.ins (He.ga K c) dx (putF f y vfs))) d1 (.ref a) F1 ∧ F1.Nodup ∧ ∀ b ∈ F1, b ∈ F ∨ b ∈ F0 := by
  cases d0 with
  | obj c fs l =>
    unfold D.putFl at e
    dsimp only at e
    split at e
    · rename_i hl
      obtain ⟨a', dx, vfs, B, e1, e2, e3, e4, e5⟩ := h0
      cases e1
      subst e2
      subst e4
      rw [List.nodup_cons] at n0
      have aF : a ∉ F := fun z => by
        rw [List.nodup_append] at nd
        exact nd.2.2 a z a List.mem_cons_self rfl
      have nFB : (F ++ B).Nodup := by
        rw [List.nodup_append] at nd ⊢
        exact ⟨nd.1, n0.2, fun x hx z hz => nd.2.2 x hx z (List.mem_cons_of_mem _ hz)⟩
      have hp := putF_ix f y vfs
      have key : ∀ {l1 : List D} {B1 : List Addr}, RDs K Z H l1 ((putF f y vfs).map (·.2)) B1 → B1.Nodup → (∀ b ∈ B1, b ∈ F ∨ b ∈ B) →
          RD K Z (upd H a (.ins (He.ga K c) dx (putF f y vfs))) (.obj c ((putF f y vfs).map (·.1)) l1) (.ref a) (a :: B1) ∧ (a :: B1).Nodup := fun {l1 B1} h1 n1 s1 => by
        have aB : a ∉ B1 := fun z => (s1 a z).elim aF n0.1
        refine ⟨⟨a, dx, _, B1, rfl, rfl, upd_same, rfl, RDs.mono (.refl _) l1 _ B1 (fun b hb ob hob => ?_) h1⟩, List.nodup_cons.mpr ⟨aB, n1⟩⟩
        have ne : b ≠ a := fun z => aB (by rw [← z]; exact hb)
        rw [upd_ne ne]
        exact hob
      cases q : ixF f (vfs.map (·.1)) with
      | some j =>
        rw [q] at e hp
        cases e
        obtain ⟨B1, w1, w2, w3⟩ := e5.setAt (j := j) h nFB (by rw [e5.lenE, List.length_map]; exact hp.2.2)
        rw [← hp.2.1] at w1
        obtain ⟨k1, k2⟩ := key w1 w2 w3
        rw [hp.1] at k1
        refine ⟨c, dx, vfs, a :: B1, e3, by rw [List.length_map] at hl; exact hl, ⟨_, _, rfl⟩, List.mem_cons_self, k1, k2, fun b hb => ?_⟩
        rcases List.mem_cons.mp hb with z | z
        · exact .inr (z ▸ List.mem_cons_self)
        · exact (w3 b z).imp id (List.mem_cons_of_mem _)
      | none =>
        rw [q] at e hp
        cases e
        have w1 : RDs K Z H (l ++ [d]) ((putF f y vfs).map (·.2)) (B ++ (F ++ [])) := by
          rw [hp.2]
          exact e5.append ⟨y, [], F, [], rfl, rfl, h, ⟨rfl, rfl⟩⟩
        rw [List.append_nil] at w1
        have w2 : (B ++ F).Nodup := (List.perm_append_comm).nodup_iff.mp nFB
        have w3 : ∀ b ∈ B ++ F, b ∈ F ∨ b ∈ B := fun b hb => (List.mem_append.mp hb).symm
        obtain ⟨k1, k2⟩ := key w1 w2 w3
        rw [hp.1] at k1
        refine ⟨c, dx, vfs, a :: (B ++ F), e3, by rw [List.length_map] at hl; exact hl, ⟨_, _, rfl⟩, List.mem_cons_self, k1, k2, fun b hb => ?_⟩
        rcases List.mem_cons.mp hb with z | z
        · exact .inr (z ▸ List.mem_cons_self)
        · exact (w3 b z).imp id (List.mem_cons_of_mem _)
    · cases e
  | _ => cases e
def sFldP (pl : Pl) (c f : Str) (fd : ED) : ES := fun e => (fd e).bind fun q => (getPl pl q.2).bind fun d0 => (match d0 with
  | .obj c' _ _ => if c' = c then some () else none
  | _ => none).bind fun _ => (D.putFl f q.1 d0).map fun d1 => .nx (setPl pl d1 q.2)
theorem vs_fld {X : Cx} {W : List Nat} {o a : Expr} {pl : Pl} {c f : Str} {fd : ED} {pos pos' : Pos} (ho : VP X o pl) (h : VD X a fd) (hC : Cls X.K (He.ga X.K c)) (hn : NoAttr X.K (He.ga X.K c) f)
    (hs : swapsWith a (some (.Attribute o f pos')) pos.line X.env = pure false := by rfl) : VS X W (.Assign [.Attribute o f pos'] a pos) (sFldP pl c f fd) := by
  obtain ⟨to, h1, h2⟩ := ho.out
  obtain ⟨t, h3, h4⟩ := h.out
  refine ⟨_, ps_fld h1 h3 hs, fun σ H Z e A o E ok q k => ?_⟩
  unfold sFldP at q
  obtain ⟨⟨d, e1⟩, q1, q⟩ := Option.bind_eq_some_iff.mp q
  obtain ⟨d0, q2, q⟩ := Option.bind_eq_some_iff.mp q
  obtain ⟨_, q3, q⟩ := Option.bind_eq_some_iff.mp q
  obtain ⟨d1, q4, q5⟩ := Option.map_eq_some_iff.mp q
  cases q5
  refine h4 _ ok q1 fun Z1 H1 y A1 F s1 o1 r1 nd1 off1 b1 => ?_
  obtain ⟨v0, F0, w1, w2, w3, w4, w5⟩ := focus o1.re q2 o1.nd o1.zh
  have bA : Sub A H A1 := fun x hx => b1 x (List.mem_append_right _ hx)
  have ho : ∃ c' fs l, d0 = .obj c' fs l := by
    cases d0 with
    | obj c' fs l => exact ⟨c', fs, l, rfl⟩
    | _ => cases q3
  have hv : ∃ x, v0 = .ref x := by
    obtain ⟨c', fs, l, e0⟩ := ho
    subst e0
    obtain ⟨x, dx, vfs, B, e0, _⟩ := w2
    exact ⟨x, e0⟩
  obtain ⟨x, e0⟩ := hv
  subst e0
  have ndF : (F ++ F0).Nodup := by
    rw [List.nodup_append] at nd1 ⊢
    exact ⟨nd1.1, w4, fun p hp r hr => nd1.2.2 p hp r (w3 r hr)⟩
  obtain ⟨c', dx, vfs, F1, g1, g2, ⟨fs, l, g3⟩, g4, g5, g6, g7⟩ := putFl_ok w2 w4 r1 ndF q4
  subst g3
  have ec : c' = c := by
    dsimp only at q3
    split at q3
    · assumption
    · cases q3
  subst ec
  refine h2 _ o1 q2 fun v hv => ?_
  have ev := PlAt.det hv w1
  subst ev
  refine ⟨x, _, dx, vfs, rfl, g1, hC, hn, g2, ?_⟩
  have nz : Z1 x = none := o1.off x (w3 x g4)
  have keepZ : Same Z1 (upd H1 x (.ins (He.ga X.K c') dx (putF f y vfs))) := fun b ob hb => by
    have ne : b ≠ x := fun z => by rw [z, nz] at hb; cases hb
    rw [upd_ne ne]
    exact o1.zh _ _ hb
  rcases w5 with ⟨p, c2, f2, qq, y1, y2⟩ | w5
  · exfalso
    subst y1
    have z : (getPl p e1).bind (D.fld c2 f2) = some (.obj c' fs l) := q2
    rw [y2] at z
    obtain ⟨zz, hz⟩ := fld_imm (show D.fld c2 f2 (.imm qq) = some _ from z)
    cases hz
  · obtain ⟨A', x1, x2, x3⟩ := w5 Z1 _ d1 F1 (.refl _) (fun b hb hn ob hob => by
      have ne : b ≠ x := fun z => hn (z ▸ g4)
      rw [upd_ne ne]; exact hob) g5 g6 fun b hb => by
        rcases g7 b hb with z | z
        · right
          intro hA
          rw [List.nodup_append] at nd1
          exact nd1.2.2 b z b hA rfl
        · exact .inl z
    have sub : ∀ b ∈ A', b ∈ F ++ A1 := fun b hb => by
      rcases x3 b hb with z | z
      · rcases g7 b z with z | z
        · exact List.mem_append_left _ z
        · exact List.mem_append_right _ (w3 b z)
      · exact List.mem_append_right _ z.1
    have s2 : Stp A1 Z1 H1 Z1 (upd H1 x (.ins (He.ga X.K c') dx (putF f y vfs))) := ⟨.refl _, keepZ, fun b ob hob hnA => by
      have ne : b ≠ x := fun z => hnA (z ▸ w3 x g4)
      rw [upd_ne ne]; exact hob, fun b ob hob => .inl hob⟩
    refine k σ Z1 _ A' (s1.trans bA s2) ⟨keepZ, x1, x2, fun b hb => ?_⟩ (fun b hb => b1 b (sub b hb)) .refl
    rcases List.mem_append.mp (sub b hb) with z | z
    · exact off1 b z
    · exact o1.off b z
end VL
end

section
set_option Elab.async false
set_option linter.all false
set_option maxRecDepth 100000
namespace VL
open PySem PySem.Spec L2

/-! ### calls of one's own, some parameters by their defaults -/
def dCallD (fn : Fn) (dps : List P) (as : List Ar) : ED := fun e => (evA as e).bind fun l => (takeA l.1 l.2).bind fun q => (fn (q.1 ++ dps.map .imm)).map fun r => (r.1, putA l.1 (r.2.take l.1.length) q.2)
theorem Ra.len {K : PySem.W.Frag} {Z H : Hp} {σ : L2.St} : ∀ {as : List (D ⊕ Nat)} {vs : List V} {T : List Addr}, Ra K Z H σ as vs T → as.length = vs.length
  | [], _, _, h => by rw [h.1]; rfl
  | .inl d :: r, _, _, ⟨v, us, F, B, h1, h2, h3, h4⟩ => by rw [h1, List.length_cons, List.length_cons, Ra.len h4]
  | .inr i :: r, _, _, ⟨v, us, h1, h2, h3⟩ => by rw [h1, List.length_cons, List.length_cons, Ra.len h3]
section
variable {K : PySem.W.Frag} {fn : Fn} {dps : List P} {dvs : List V} {as : List Ar} {E : XK}
/-- from the arguments on -/
theorem call_from {σ : L2.St} {Z0 H0 Z1 H1 : Hp} {A0 A1 T : List Addr} {e1 e2 : En} {l : List (D ⊕ Nat)} {vs : List V} {ds ds' : List D} {r : D} {Q : VK} (hd : ∀ Z, Rps K Z dps dvs)
    (s1 : Stp A0 Z0 H0 Z1 H1) (o1 : Ok K Z1 H1 σ e1 A1) (r1 : Ra K Z1 H1 σ l vs T) (n1 : (T ++ A1).Nodup) (f1 : ∀ a ∈ T, Z1 a = none) (b1 : Sub A0 H0 (T ++ A1)) (q2 : takeA l e1 = some (ds, e2)) (q3 : fn (ds ++ dps.map .imm) = some (r, ds'))
    (k : ∀ Z' H' v A' F, Stp A0 Z0 H0 Z' H' → Ok K Z' H' σ (putA l (ds'.take l.length) e2) A' → RD K Z' H' r v F → (F ++ A').Nodup → (∀ a ∈ F, Z' a = none) → Sub A0 H0 (F ++ A') → Q v H') : spV K fn (vs ++ dvs) H1 Q E := by
  obtain ⟨G, B, w1, w2, w3, w4, w5⟩ := take_ok r1 o1.re n1 q2
  have w3' := w3
  rw [List.nodup_append] at w3'
  have offG : ∀ a ∈ G, Z1 a = none := fun a ha => (List.mem_append.mp (w4 a (List.mem_append_left _ ha))).elim (f1 a) (o1.off a)
  have wd : RDs K Z1 H1 (ds ++ dps.map .imm) (vs ++ dvs) G := by
    have h := w1.append (RDs.imms (H := H1) (hd Z1))
    rw [List.append_nil] at h
    exact h
  refine ⟨Z1, ds ++ dps.map .imm, G, r, ds', o1.zh, wd, w3'.1, offG, q3, fun Z' H' v G' F st rd rr nd2 off sb => ?_⟩
  obtain ⟨G1, G2, y1, y2, y3⟩ := rd.split
  subst y3
  rw [r1.len] at k
  have nd3 : (F ++ G1).Nodup := by
    rw [← List.append_assoc, List.nodup_append] at nd2
    exact nd2.1
  have mem : ∀ a, a ∈ F ++ G1 → a ∈ F ++ (G1 ++ G2) := fun a ha => (List.mem_append.mp ha).elim (List.mem_append_left _) fun z => List.mem_append_right _ (List.mem_append_left _ z)
  obtain ⟨A', z1, z2, z3, z4, z5⟩ := after_call s1 o1 r1 b1 f1 w2 w3 w4 st y1 rr nd3 (fun a ha => off a (mem a ha)) (fun a ha => sb a (mem a ha))
  exact k Z' H' v A' F z1 z2 rr z3 z4 z5
theorem EvD.callD {t : TA} (hd : ∀ Z, Rps K Z dps dvs) (h : EvA K t as) : EvD K (tCall (spV K fn) dvs E t) (dCallD fn dps as) := fun σ H Z e e' A d Q o q k => by
  unfold dCallD at q
  obtain ⟨⟨l, e1⟩, q1, q⟩ := Option.bind_eq_some_iff.mp q
  obtain ⟨⟨ds, e2⟩, q2, q⟩ := Option.bind_eq_some_iff.mp q
  obtain ⟨⟨r, ds'⟩, q3, q⟩ := Option.map_eq_some_iff.mp q
  cases q
  exact h _ o q1 fun Z1 H1 vs A1 T s1 o1 r1 n1 f1 b1 => call_from hd s1 o1 r1 n1 f1 b1 q2 q3 k
/-! ### o.m(..), o a variable -/
def D.isO (c m : Str) : D → Bool
  | .obj c' fs _ => decide (c' = c) && (ixF m fs).isNone
  | .imm (.obj c' fs _) => decide (c' = c) && (ixF m fs).isNone
  | _ => false
theorem isO_at {Z H : Hp} {d : D} {v : V} {F : List Addr} {c m : Str} (s : Same Z H) (h : RD K Z H d v F) (e : d.isO c m = true) : ∃ a dx fs, v = .ref a ∧ H a = some (.ins (He.ga K c) dx fs) ∧ fs.lookup m = none := by
  cases d with
  | obj c' fs l =>
    obtain ⟨e1, e2⟩ := Bool.and_eq_true_iff.mp (show (decide (c' = c) && (ixF m fs).isNone) = true from e)
    have e1 := of_decide_eq_true e1
    subst e1
    obtain ⟨a, dx, vfs, B, h1, h2, h3, h4, h5⟩ := h
    subst h4
    refine ⟨a, dx, vfs, h1, h3, ?_⟩
    rw [lookup_ix, Option.isNone_iff_eq_none.mp e2]
    rfl
  | imm p =>
    cases p with
    | obj c' fs l =>
      obtain ⟨e1, e2⟩ := Bool.and_eq_true_iff.mp (show (decide (c' = c) && (ixF m fs).isNone) = true from e)
      have e1 := of_decide_eq_true e1
      subst e1
      obtain ⟨⟨a, dx, vfs, h1, h2, h3, h4⟩, _⟩ := h
      subst h3
      refine ⟨a, dx, vfs, h1, s _ _ h2, ?_⟩
      rw [lookup_ix, Option.isNone_iff_eq_none.mp e2]
      rfl
    | _ => cases e
  | _ => cases e
def dMeth (fn : Fn) (dps : List P) (c m : Str) (i : Nat) (as : List Ar) : ED := fun e => match e[i]? with
  | some (some d0) => if d0.isO c m = true then dCallD fn dps (.lend i :: as) e else none
  | _ => none
theorem EvD.meth {t : TA} {i : Nat} {c m : Str} (hd : ∀ Z, Rps K Z dps dvs) (h : EvA K t as) : EvD K (tMeth (He.ga K c) m (spV K fn) dvs E (tVar i) t) (dMeth fn dps c m i as) := fun σ H Z e e' A d Q o q k => by
  unfold dMeth at q
  split at q
  · rename_i d0 hd0
    split at q
    · rename_i hO
      obtain ⟨v, F, hv, rv, _⟩ := o.re.get hd0
      obtain ⟨a, dx, fs, g1, g2, g3⟩ := isO_at o.zh rv hO
      subst g1
      refine ⟨.ref a, hv, a, dx, fs, rfl, g2, g3, ?_⟩
      unfold dCallD at q
      obtain ⟨⟨l, e1⟩, q1, q⟩ := Option.bind_eq_some_iff.mp q
      obtain ⟨⟨ds, e2⟩, q2, q⟩ := Option.bind_eq_some_iff.mp q
      obtain ⟨⟨r, ds'⟩, q3, q⟩ := Option.map_eq_some_iff.mp q
      cases q
      have q1' : ((evA as e).map fun q => (Sum.inr i :: q.1, q.2)) = some (l, e1) := by
        unfold evA at q1
        rw [hd0] at q1
        exact q1
      obtain ⟨⟨l', e1'⟩, q5, q6⟩ := Option.map_eq_some_iff.mp q1'
      cases q6
      refine h _ o q5 fun Z1 H1 vs A1 T s1 o1 r1 n1 f1 b1 => ?_
      have r1' : Ra K Z1 H1 σ (.inr i :: l') (.ref a :: vs) T := ⟨.ref a, vs, rfl, hv, r1⟩
      exact call_from (vs := .ref a :: vs) hd s1 o1 r1' n1 f1 b1 q2 q3 k
    · cases q
  · cases q
/-! ### C(..) -/
def dMake (fn : Fn) (dps : List P) (c : Str) (as : List Ar) : ED := fun e => (evA as e).bind fun l => (takeA l.1 l.2).bind fun q => (fn (.obj c [] [] :: (q.1 ++ dps.map .imm))).bind fun r => match r with
  | (.imm .non, d :: ds) => some (d, putA l.1 (ds.take l.1.length) q.2)
  | _ => none
theorem EvD.make {t : TA} {c : Str} (hd : ∀ Z, Rps K Z dps dvs) (h : EvA K t as) : EvD K (tMake (He.ga K c) (spV K fn) dvs E t) (dMake fn dps c as) := fun σ H Z e e' A d Q o q k => by
  unfold dMake at q
  obtain ⟨⟨l, e1⟩, q1, q⟩ := Option.bind_eq_some_iff.mp q
  obtain ⟨⟨ds, e2⟩, q2, q⟩ := Option.bind_eq_some_iff.mp q
  obtain ⟨⟨r, ds'⟩, q3, q⟩ := Option.bind_eq_some_iff.mp q
  dsimp only at q3
  split at q
  · rename_i rr d0 ds0 heq
    cases heq
    cases q
    refine h _ o q1 fun Z1 H1 vs A1 T s1 o1 r1 n1 f1 b1 => fun x dx nx ndx nex => ?_
    have xd : Ex Z1 H1 Z1 (upd H1 dx (.own x)) := Ex.own o1.zh ndx
    have nx2 : upd H1 dx (.own x) x = none := by rw [upd_ne nex.symm]; exact nx
    have xx : Ex Z1 (upd H1 dx (.own x)) Z1 (upd (upd H1 dx (.own x)) x (.ins (He.ga K c) dx [])) := Ex.own xd.zh nx2
    have xa := xd.trans xx
    have o2 := o1.ex xa
    obtain ⟨G, B, w1, w2, w3, w4, w5⟩ := take_ok r1 o1.re n1 q2
    have thT : ∀ a ∈ T ++ A1, ∃ ob, H1 a = some ob := fun a ha => (List.mem_append.mp ha).elim (r1.there a) (Re.there e1 σ A1 o1.re a)
    have xG : x ∉ G ++ B := fun hx => by
      obtain ⟨ob, hob⟩ := thT x (w4 x hx)
      rw [nx] at hob; cases hob
    have w1' : RDs K Z1 (upd (upd H1 dx (.own x)) x (.ins (He.ga K c) dx [])) ds vs G := RDs.mono (.refl _) ds vs G (fun a _ ob hob => xa.h a ob hob) w1
    have w2' : Re K Z1 (upd (upd H1 dx (.own x)) x (.ins (He.ga K c) dx [])) e2 σ B := Re.mono (.refl _) e2 σ B (fun a _ ob hob => xa.h a ob hob) w2
    have r1' : Ra K Z1 (upd (upd H1 dx (.own x)) x (.ins (He.ga K c) dx [])) σ l vs T := Ra.mono (.refl _) (fun a _ ob hob => xa.h a ob hob) r1
    have w3' := w3
    rw [List.nodup_append] at w3'
    have offG : ∀ a ∈ G, Z1 a = none := fun a ha => (List.mem_append.mp (w4 a (List.mem_append_left _ ha))).elim (f1 a) (o1.off a)
    have zx : Z1 x = none := o1.zh.free nx
    have hobj : RD K Z1 (upd (upd H1 dx (.own x)) x (.ins (He.ga K c) dx [])) (.obj c [] []) (.ref x) [x] := ⟨x, dx, [], [], rfl, rfl, upd_same, rfl, ⟨rfl, rfl⟩⟩
    have wd : RDs K Z1 (upd (upd H1 dx (.own x)) x (.ins (He.ga K c) dx [])) (.obj c [] [] :: (ds ++ dps.map .imm)) (.ref x :: (vs ++ dvs)) ([x] ++ G) := by
      have h := w1'.append (RDs.imms (H := upd (upd H1 dx (.own x)) x (.ins (He.ga K c) dx [])) (hd Z1))
      rw [List.append_nil] at h
      exact ⟨.ref x, _, [x], G, rfl, rfl, hobj, h⟩
    refine ⟨Z1, .obj c [] [] :: (ds ++ dps.map .imm), [x] ++ G, .imm .non, d :: ds0, xa.zh, wd, List.nodup_cons.mpr ⟨fun z => xG (List.mem_append_left _ z), w3'.1⟩, fun a ha => ?_, q3, fun Z' H' v G' F st rd rr nd2 off sb => ⟨rr.1, ?_⟩⟩
    · rcases List.mem_cons.mp ha with z | z
      · rw [z]; exact zx
      · exact offG a z
    obtain ⟨v1, us1, Fd, G1, y1, y2, y3, y4⟩ := rd
    cases y1
    subst y2
    obtain ⟨G2, G3, u1, u2, u3⟩ := y4.split
    subst u3
    rw [show F = [] from rr.2, List.nil_append] at nd2 off sb
    -- the rest as behind a call whose value is the new object
    have nd3 : (Fd ++ G2).Nodup := by
      rw [← List.append_assoc, List.nodup_append] at nd2
      exact nd2.1
    have mem : ∀ a, a ∈ Fd ++ G2 → a ∈ Fd ++ (G2 ++ G3) := fun a ha => (List.mem_append.mp ha).elim (List.mem_append_left _) fun z => List.mem_append_right _ (List.mem_append_left _ z)
    have sb' : Sub G H1 (Fd ++ G2) := fun a ha => by
      rcases sb a (mem a ha) with z | z
      · rcases List.mem_cons.mp z with z | z
        · rw [z]; exact .inr nx
        · exact .inl z
      · exact .inr (xa.h.free z)
    have st' : Stp G Z1 H1 Z' H' := by
      refine ⟨st.z, st.zh, fun a ob hob hn => st.keep a ob (xa.h a ob hob) fun z => ?_, fun a ob hob => ?_⟩
      · rcases List.mem_cons.mp z with z | z
        · rw [z, nx] at hob; cases hob
        · exact hn z
      · rcases st.new a ob hob with z | z | z
        · exact .inl z
        · rcases List.mem_cons.mp z with z | z
          · rw [z]; exact .inr (.inr (.inl nx))
          · exact .inr (.inl z)
        · refine .inr (.inr ?_)
          rcases z with z | ⟨us, z⟩
          · exact .inl (xa.h.free z)
          · cases e0 : H1 a with
            | none => exact .inl e0
            | some u =>
              have y := xa.h a u e0
              rw [z] at y
              cases y
              exact .inr ⟨us, e0⟩
    obtain ⟨A', z1, z2, z3, z4, z5⟩ := after_call s1 o1 r1 b1 f1 w2 w3 w4 st' u1 y3 nd3 (fun a ha => off a (mem a ha)) sb'
    rw [← r1.len] at z2
    exact k Z' H' _ A' Fd z1 z2 y3 z3 z4 z5
  · cases q
end
end VL
end

section
set_option Elab.async false
set_option linter.all false
set_option maxRecDepth 100000
namespace VL
open PySem PySem.Spec L2

section
variable {X : Cx} {k : Nat} {f : Addr} {fd : FuncData} {ps : List Str} {fn : Fn} {nm m c : Str} {p pos apos : Pos} {x o : Expr} {xs : List Expr} {as : List Ar} {ds : List Value} {dvs : List V} {dps : List P}
/-- f(..) -/
theorem vd_fn (F : FnOk X.prog X.w X.K X.mg X.base CX0 k f fd ps (spV X.K fn)) (hr : Room k X.A) (hg : Gl X nm) (hm : X.mg nm = some (.ref f)) (hk : PySem.W.keepIn X.K (.ref f) = true) (hb : Binds X.K fd ps ds) (hv : Vals dvs ds) (hd : ∀ Z, Rps X.K Z dps dvs)
    (ha : VA X (x :: xs) as) (hdb : (nm == ("__debug__" : Str)) = false := by decide) (he : starEach (x :: xs) X.env = (false, eval x X.env) :: starEach xs X.env := by rfl) (hpl : (backTo pos (starEach xs X.env)).any (·.1) = false := by rfl) :
    VD X (.Call (.Name nm p) (x :: xs) [] pos) (dCallD fn dps as) := by
  obtain ⟨t, h1, h2⟩ := ha.out
  exact ⟨_, pe_call F hr hg hm hk hb hv pass0 h1 hdb he hpl, EvD.callD hd h2⟩
theorem ev_nil {K : PySem.W.Frag} : EvA K tNil [] := fun σ H Z e e' A l Q o q k => by
  cases q
  exact k Z H [] A [] (Ex.refl o.zh).stp o ⟨rfl, rfl⟩ o.nd (fun _ z => nomatch z) .refl
theorem vd_fn0 (F : FnOk X.prog X.w X.K X.mg X.base CX0 k f fd ps (spV X.K fn)) (hr : Room k X.A) (hg : Gl X nm) (hm : X.mg nm = some (.ref f)) (hk : PySem.W.keepIn X.K (.ref f) = true) (hb : Binds X.K fd ps ds) (hv : Vals dvs ds) (hd : ∀ Z, Rps X.K Z dps dvs)
    (hdb : (nm == ("__debug__" : Str)) = false := by decide) : VD X (.Call (.Name nm p) [] [] pos) (dCallD fn dps []) :=
  ⟨_, pe_call0 F hr hg hm hk hb hv pass0 hdb, EvD.callD hd ev_nil⟩
/-- o.m(..), o a variable -/
theorem vd_meth (i : Nat) {y : Str} {pl : Sem Bool} (hx : PE X (.Name y p) (tVar i)) (hc : Cls X.K (He.ga X.K c)) (hm : Meth X.K (He.ga X.K c) m f) (F : FnOk X.prog X.w X.K X.mg X.base CX0 k f fd ps (spV X.K fn)) (hr : Room k X.A) (hb : Binds X.K fd ps ds) (hv : Vals dvs ds) (hd : ∀ Z, Rps X.K Z dps dvs)
    (ha : VA X (x :: xs) as) (hst : starEach (x :: xs) X.env = (false, eval x X.env) :: starEach xs X.env := by rfl) (hpl : (backTo pos (starEach xs X.env)).any (·.1) = false := by rfl)
    (ht : eval (.Call (.Attribute (.Name y p) m apos) (x :: xs) [] pos) X.env = (do
      let ov ← eval (.Name y p) X.env
      standAt apos.atName
      let (f, first) ← holding [ov] (getMethod ov m pl)
      callWith pos f first (backTo pos (starEach (x :: xs) X.env)) (backToKw pos (keywordEach [] X.env))) := by rfl) :
    VD X (.Call (.Attribute (.Name y p) m apos) (x :: xs) [] pos) (dMeth fn dps c m i as) := by
  obtain ⟨t, h1, h2⟩ := ha.out
  exact ⟨_, pe_meth (pl := pl) hx hc hm F hr hb hv pass0 h1 hst hpl ht, EvD.meth hd h2⟩
theorem vd_meth0 (i : Nat) {y : Str} {pl : Sem Bool} (hx : PE X (.Name y p) (tVar i)) (hc : Cls X.K (He.ga X.K c)) (hm : Meth X.K (He.ga X.K c) m f) (F : FnOk X.prog X.w X.K X.mg X.base CX0 k f fd ps (spV X.K fn)) (hr : Room k X.A) (hb : Binds X.K fd ps ds) (hv : Vals dvs ds) (hd : ∀ Z, Rps X.K Z dps dvs)
    (ht : eval (.Call (.Attribute (.Name y p) m apos) [] [] pos) X.env = (do
      let ov ← eval (.Name y p) X.env
      standAt apos.atName
      let (f, first) ← holding [ov] (getMethod ov m pl)
      callWith pos f first (backTo pos (starEach [] X.env)) (backToKw pos (keywordEach [] X.env))) := by rfl) :
    VD X (.Call (.Attribute (.Name y p) m apos) [] [] pos) (dMeth fn dps c m i []) :=
  ⟨_, pe_meth0 (pl := pl) hx hc hm F hr hb hv pass0 ht, EvD.meth hd ev_nil⟩
/-- C(..) -/
theorem vd_make (M : Mk X.K (He.ga X.K c) f) (F : FnOk X.prog X.w X.K X.mg X.base CX0 k f fd ps (spV X.K fn)) (hr : Room (k + 1) X.A) (hg : Gl X nm) (hm : X.mg nm = some (.ref (He.ga X.K c))) (hb : Binds X.K fd ps ds) (hv : Vals dvs ds) (hd : ∀ Z, Rps X.K Z dps dvs)
    (ha : VA X (x :: xs) as) (hdb : (nm == ("__debug__" : Str)) = false := by decide) (he : starEach (x :: xs) X.env = (false, eval x X.env) :: starEach xs X.env := by rfl) (hpl : (backTo pos (starEach xs X.env)).any (·.1) = false := by rfl) :
    VD X (.Call (.Name nm p) (x :: xs) [] pos) (dMake fn dps c as) := by
  obtain ⟨t, h1, h2⟩ := ha.out
  exact ⟨_, pe_make M F hr hg hm hb hv pass0 h1 hdb he hpl, EvD.make hd h2⟩
theorem vd_make0 (M : Mk X.K (He.ga X.K c) f) (F : FnOk X.prog X.w X.K X.mg X.base CX0 k f fd ps (spV X.K fn)) (hr : Room (k + 1) X.A) (hg : Gl X nm) (hm : X.mg nm = some (.ref (He.ga X.K c))) (hb : Binds X.K fd ps ds) (hv : Vals dvs ds) (hd : ∀ Z, Rps X.K Z dps dvs)
    (hdb : (nm == ("__debug__" : Str)) = false := by decide) : VD X (.Call (.Name nm p) [] [] pos) (dMake fn dps c []) :=
  ⟨_, pe_make0 M F hr hg hm hb hv pass0 hdb, EvD.make hd ev_nil⟩
end
/-! ### o.m(..), o a place within a variable's object; what is handed in changes nothing -/
def dMethQ (fn : Fn) (dps : List P) (c m : Str) (pl : Pl) (f : En → Option (List P)) : ED := fun e => (getPl pl e).bind fun d0 => if d0.isO c m = true then (f e).bind fun ps => (fn (d0 :: (ps ++ dps).map .imm)).bind fun r => match d0, r.2 with
  | .imm _, _ => some (r.1, e)
  | _, d1 :: _ => some (r.1, setPl pl d1 e)
  | _, _ => none
  else none
section
variable {K : PySem.W.Frag} {fn : Fn} {dps : List P} {dvs : List V} {E : XK}
theorem EvD.methQ {to : TE} {t : TA} {pl : Pl} {c m : Str} {f : En → Option (List P)} (hd : ∀ Z, Rps K Z dps dvs) (hp : ∀ ⦃σ : L2.St⦄ ⦃H Z : Hp⦄ ⦃e : En⦄ ⦃A : List Addr⦄ ⦃d : D⦄ (Q : VK), Ok K Z H σ e A → getPl pl e = some d → (∀ v, PlAt K H σ pl v → Q v H) → to σ H Q) (h : EvQs K t f) :
    EvD K (tMeth (He.ga K c) m (spV K fn) dvs E to t) (dMethQ fn dps c m pl f) := fun σ H Z e e' A d Q o q k => by
  unfold dMethQ at q
  obtain ⟨d0, q0, q⟩ := Option.bind_eq_some_iff.mp q
  split at q
  · rename_i hO
    obtain ⟨ps, q1, q⟩ := Option.bind_eq_some_iff.mp q
    obtain ⟨⟨r, ds'⟩, q2, q⟩ := Option.bind_eq_some_iff.mp q
    obtain ⟨v0, F0, w1, w2, w3, w4, w5⟩ := focus o.re q0 o.nd o.zh
    obtain ⟨a, dx, fs, g1, g2, g3⟩ := isO_at o.zh w2 hO
    subst g1
    refine hp _ o q0 fun v hv => ?_
    have ev := PlAt.det hv w1
    subst ev
    refine ⟨a, dx, fs, rfl, g2, g3, h _ o q1 fun Z1 H1 vs x1 r1 => ?_⟩
    have o1 := o.ex x1
    have w2' : RD K Z1 H1 d0 (.ref a) F0 := RD.mono x1.z d0 _ _ (fun b _ ob hb => x1.h b ob hb) w2
    have wd : RDs K Z1 H1 (d0 :: (ps ++ dps).map .imm) (.ref a :: (vs ++ dvs)) (F0 ++ []) := ⟨.ref a, _, F0, [], rfl, rfl, w2', RDs.imms (r1.append (hd Z1))⟩
    rw [List.append_nil] at wd
    have offF : ∀ b ∈ F0, Z1 b = none := fun b hb => o1.off b (w3 b hb)
    refine ⟨Z1, _, F0, r, ds', x1.zh, wd, w4, offF, q2, fun Z' H' v G' F st rd rr nd2 off sb => ?_⟩
    have s1 : Stp A Z H Z1 H1 := x1.stp
    have subA : Sub A H F0 := fun b hb => .inl (w3 b hb)
    have st2 : Stp A Z H Z' H' := s1.trans subA st
    have sFG : Sub A H (F ++ G') := Sub.trans s1 subA sb
    rw [List.nodup_append] at nd2
    have caseI : ∀ p, d0 = .imm p → d = r ∧ e' = e := fun p hp => by
      subst hp
      cases q
      exact ⟨rfl, rfl⟩
    by_cases hi : ∃ p, d0 = .imm p
    · obtain ⟨p, hp⟩ := hi
      obtain ⟨e1, e2⟩ := caseI p hp
      subst e1
      subst e2
      subst hp
      have f0 : F0 = [] := w2.2
      subst f0
      have re' : Re K Z' H' e' σ A := Re.mono st.z e' σ A (fun b hb ob hob => st.keep b ob hob (by simp)) o1.re
      have apart : ∀ b, b ∈ F ++ G' → b ∉ A := fun b hb hA => by
        rcases sb b hb with z | z
        · cases z
        · obtain ⟨w, hw⟩ := Re.there e' σ A o1.re b hA
          rw [hw] at z; cases z
      refine k Z' H' v A F st2 ⟨st.zh, re', o.nd, fun b hb => ?_⟩ rr ?_ (fun b hb => off b (List.mem_append_left _ hb)) fun b hb => ?_
      · cases z : Z' b with
        | none => rfl
        | some u =>
          rcases st.new b u z with w | w | w
          · rw [o1.off b hb] at w; cases w
          · cases w
          · exact absurd w (Re.noA e' σ A o1.re b hb)
      · rw [List.nodup_append]
        exact ⟨nd2.1, o.nd, fun b hb x hx z => apart b (List.mem_append_left _ hb) (z ▸ hx)⟩
      · rcases List.mem_append.mp hb with z | z
        · exact sFG b (List.mem_append_left _ z)
        · exact .inl z
    · have hq : ∃ d1 ds1, ds' = d1 :: ds1 ∧ d = r ∧ e' = setPl pl d1 e := by
        cases d0 with
        | imm p => exact absurd ⟨p, rfl⟩ hi
        | _ =>
          cases ds' with
          | nil => cases q
          | cons d1 ds1 => cases q; exact ⟨d1, ds1, rfl, rfl, rfl⟩
      obtain ⟨d1, ds1, e1, e2, e3⟩ := hq
      subst e1
      subst e2
      subst e3
      obtain ⟨v1, us1, F1, G1, y1, y2, y3, y4⟩ := rd
      cases y1
      subst y2
      have n1 := nd2.2.1
      rw [List.nodup_append] at n1
      rcases w5 with ⟨p, c2, f2, qq, z1, z2⟩ | w5
      · exfalso
        subst z1
        have z : (getPl p e).bind (D.fld c2 f2) = some d0 := q0
        rw [z2] at z
        obtain ⟨zz, hz⟩ := fld_imm (show D.fld c2 f2 (.imm qq) = some _ from z)
        exact hi ⟨zz, hz⟩
      · have apart : ∀ b, b ∈ F ++ (F1 ++ G1) → b ∈ F0 ∨ b ∉ A := fun b hb => by
          rcases sb b hb with z | z
          · exact .inl z
          · right
            intro hA
            obtain ⟨w, hw⟩ := Re.there e σ A o1.re b hA
            rw [hw] at z; cases z
        obtain ⟨A', x1', x2', x3'⟩ := w5 Z' H' d1 F1 (x1.z.trans st.z) (fun b hb hn ob hob => st.keep b ob (x1.h b ob hob) hn) y3 n1.1 fun b hb => apart b (List.mem_append_right _ (List.mem_append_left _ hb))
        refine k Z' H' v A' F st2 ⟨st.zh, x1', x2', fun b hb => ?_⟩ rr ?_ (fun b hb => off b (List.mem_append_left _ hb)) fun b hb => ?_
        · rcases x3' b hb with z | z
          · exact off b (List.mem_append_right _ (List.mem_append_left _ z))
          · cases zz : Z' b with
            | none => rfl
            | some u =>
              rcases st.new b u zz with w | w | w
              · rw [o1.off b z.1] at w; cases w
              · exact absurd w z.2
              · exact absurd w (Re.noA e σ A o1.re b z.1)
        · rw [List.nodup_append]
          refine ⟨nd2.1, x2', fun b hb x hx z => ?_⟩
          subst z
          rcases x3' b hx with z | z
          · exact nd2.2.2 b hb b (List.mem_append_left _ z) rfl
          · rcases apart b (List.mem_append_left _ hb) with w | w
            · exact z.2 w
            · exact w z.1
        · rcases List.mem_append.mp hb with z | z
          · exact sFG b (List.mem_append_left _ z)
          · rcases x3' b z with z | z
            · exact sFG b (List.mem_append_right _ (List.mem_append_left _ z))
            · exact .inl z.1
  · cases q
end
section
variable {X : Cx} {k : Nat} {f : Addr} {fd : FuncData} {ps : List Str} {fn : Fn} {m c : Str} {pos apos : Pos} {x o : Expr} {xs : List Expr} {ds : List Value} {dvs : List V} {dps : List P} {g : En → Option (List P)} {pl : Pl}
theorem vd_methP {plb : Sem Bool} (hx : VP X o pl) (hc : Cls X.K (He.ga X.K c)) (hm : Meth X.K (He.ga X.K c) m f) (F : FnOk X.prog X.w X.K X.mg X.base CX0 k f fd ps (spV X.K fn)) (hr : Room k X.A) (hb : Binds X.K fd ps ds) (hv : Vals dvs ds) (hd : ∀ Z, Rps X.K Z dps dvs)
    (ha : VQs X (x :: xs) g) (hst : starEach (x :: xs) X.env = (false, eval x X.env) :: starEach xs X.env := by rfl) (hpl : (backTo pos (starEach xs X.env)).any (·.1) = false := by rfl)
    (ht : eval (.Call (.Attribute o m apos) (x :: xs) [] pos) X.env = (do
      let ov ← eval o X.env
      standAt apos.atName
      let (f, first) ← holding [ov] (getMethod ov m plb)
      callWith pos f first (backTo pos (starEach (x :: xs) X.env)) (backToKw pos (keywordEach [] X.env))) := by rfl) :
    VD X (.Call (.Attribute o m apos) (x :: xs) [] pos) (dMethQ fn dps c m pl g) := by
  obtain ⟨t, h1, h2⟩ := ha.out
  obtain ⟨to, h3, h4⟩ := hx.out
  exact ⟨_, pe_meth (pl := plb) h3 hc hm F hr hb hv pass0 h1 hst hpl ht, EvD.methQ hd h4 h2⟩
end
end VL
end

section
set_option Elab.async false
set_option linter.all false
set_option maxRecDepth 100000
namespace VL
open PySem PySem.Spec L2

/-! ### readings that hang on the data alone -/
def cF (K : PySem.W.Frag) (f : EF) : TE := fun σ H Q => ∃ Z e A p e', Ok K Z H σ e A ∧ f e = some (p, e') ∧ ∀ Z' H' v A', Stp A Z H Z' H' → Ok K Z' H' σ e' A' → Sub A H A' → Rp K Z' p v → Q v H'
def cT (K : PySem.W.Frag) (f : ET) : TT := fun σ H Q => ∃ Z e A b e', Ok K Z H σ e A ∧ f e = some (b, e') ∧ ∀ Z' H' A', Stp A Z H Z' H' → Ok K Z' H' σ e' A' → Sub A H A' → Q b H'
def cG (K : PySem.W.Frag) (W : List Nat) (t : Tg) : TG := fun v σ H Q => ∃ Z e e' A p, Ok K Z H σ e A ∧ Rp K Z p v ∧ asT t p e = some e' ∧ ∀ σ' Z' H' A', Stp A Z H Z' H' → Ok K Z' H' σ' e' A' → Sub A H A' → Fix W σ σ' → Q σ' H'
def cI (K : PySem.W.Frag) (f : EI) : TI := fun σ H R => ∃ Z e e' A l, Ok K Z H σ e A ∧ f e = some (l, e') ∧ ∀ Z' H' A' J, Stp A Z H Z' H' → Ok K Z' H' σ e' A' → Sub A H A' → ItOk K Z' J l → R J H'
section
variable {X : Cx} {x tg : Expr} {W : List Nat}
theorem VF.pe {f : EF} (h : VF X x f) : PE X x (cF X.K f) := by
  obtain ⟨t, h1, h2⟩ := h.out
  exact ⟨fun pins s σ H Q I ⟨Z, e, A, p, e', o, q, k⟩ => h1.run pins s σ H Q I (h2 Q o q k)⟩
theorem VT.pt {f : ET} (h : VT X x f) : PT X x (cT X.K f) := by
  obtain ⟨t, h1, h2⟩ := h.out
  exact ⟨fun pins s σ H Q I ⟨Z, e, A, b, e', o, q, k⟩ => h1.run pins s σ H Q I (h2 Q o q k)⟩
theorem VG.pg {u : Tg} (h : VG X W x u) : PG X x (cG X.K W u) := by
  obtain ⟨t, h1, h2⟩ := h.out
  exact ⟨fun pins s σ H v w Q I r ⟨Z, e, e', A, p, o, rp, q, k⟩ => h1.run pins s σ H v w Q I r (h2 Q o rp q k)⟩
theorem VI.pi {f : EI} (h : VI X tg x f) : PI X tg x (cI X.K f) := by
  obtain ⟨t, h1, h2⟩ := h.out
  exact ⟨fun pins s σ H R I ⟨Z, e, e', A, l, o, q, k⟩ => h1.run pins s σ H R I (h2 R o q k)⟩
end
/-- tests of a comprehension -/
structure VTs (X : Cx) (ifs : List Expr) (f : ET) : Prop where
  out : PTs X ifs (cT X.K f)
def tYesE : ET := fun e => some (true, e)
theorem vts_nil {X : Cx} : VTs X [] tYesE := ⟨⟨fun pins s σ H Q I ⟨Z, e, A, b, e', o, q, k⟩ => by
  cases q
  exact (pts_nil (X := X)).run pins s σ H Q I (k Z H A (Ex.refl o.zh).stp o .refl)⟩⟩
theorem vts_one {X : Cx} {c : Expr} {f : ET} (h : VT X c f) : VTs X [c] f := ⟨pts_one h.pt⟩

/-! ### slots forgotten -/
def wipeE (e : En) : List Nat → En
  | [] => e
  | v :: vs => (wipeE e vs).set v none
section
variable {K : PySem.W.Frag} {Z H : Hp}
theorem Re.forget : ∀ {e : En} {σ : L2.St} {A : List Addr} (i : Nat), Re K Z H e σ A → A.Nodup → ∃ A', Re K Z H (e.set i none) (σ.set i none) A' ∧ A'.Nodup ∧ ∀ a ∈ A', a ∈ A
  | [], _, A, i, h, nd => by
    rw [h.1]
    exact ⟨A, ⟨rfl, h.2⟩, nd, fun _ z => z⟩
  | none :: e, _, A, 0, ⟨o, r, h1, h2⟩, nd => ⟨A, ⟨none, r, by rw [h1]; rfl, h2⟩, nd, fun _ z => z⟩
  | some d :: e, _, A, 0, ⟨v, r, F, B, h1, h2, h3, h4⟩, nd => by
    subst h2
    rw [List.nodup_append] at nd
    exact ⟨B, ⟨none, r, by rw [h1]; rfl, h4⟩, nd.2.1, fun a ha => List.mem_append_right _ ha⟩
  | none :: e, _, A, i + 1, ⟨o, r, h1, h2⟩, nd => by
    obtain ⟨A', q1, q2, q3⟩ := Re.forget i h2 nd
    exact ⟨A', ⟨o, _, by rw [h1]; rfl, q1⟩, q2, q3⟩
  | some d :: e, _, A, i + 1, ⟨v, r, F, B, h1, h2, h3, h4⟩, nd => by
    subst h2
    rw [List.nodup_append] at nd
    obtain ⟨A', q1, q2, q3⟩ := Re.forget i h4 nd.2.1
    refine ⟨F ++ A', ⟨v, _, F, A', by rw [h1]; rfl, rfl, h3, q1⟩, ?_, fun a ha => ?_⟩
    · rw [List.nodup_append]
      exact ⟨nd.1, q2, fun a ha b hb => nd.2.2 a ha b (q3 b hb)⟩
    · exact (List.mem_append.mp ha).elim (List.mem_append_left _) fun z => List.mem_append_right _ (q3 a z)
theorem Ok.wipe {σ : L2.St} {e : En} {A : List Addr} (o : Ok K Z H σ e A) : ∀ vs : List Nat, ∃ A', Ok K Z H (wipe σ vs) (wipeE e vs) A' ∧ ∀ a ∈ A', a ∈ A
  | [] => ⟨A, o, fun _ z => z⟩
  | v :: vs => by
    obtain ⟨A', o', s'⟩ := Ok.wipe o vs
    obtain ⟨A2, q1, q2, q3⟩ := o'.re.forget v o'.nd
    exact ⟨A2, ⟨o.zh, q1, q2, fun a ha => o'.off a (q3 a ha)⟩, fun a ha => s' a (q3 a ha)⟩
/-- where no slot is told of, it may be anything -/
theorem Re.agree : ∀ {e : En} {σ σ' : L2.St} {A : List Addr}, Re K Z H e σ A → σ'.length = σ.length → (∀ (i : Nat) (d : D), e[i]? = some (some d) → σ'[i]? = σ[i]?) → Re K Z H e σ' A
  | [], _, σ', A, h, hl, _ => by
    rw [h.1] at hl
    cases σ' with
    | nil => exact ⟨rfl, h.2⟩
    | cons _ _ => cases hl
  | none :: e, _, σ', A, ⟨o, r, h1, h2⟩, hl, ha => by
    subst h1
    cases σ' with
    | nil => cases hl
    | cons o' r' => exact ⟨o', r', rfl, Re.agree h2 (by simpa using hl) fun i d hd => by simpa using ha (i + 1) d (by simpa using hd)⟩
  | some d :: e, _, σ', A, ⟨v, r, F, B, h1, h2, h3, h4⟩, hl, ha => by
    subst h1
    cases σ' with
    | nil => cases hl
    | cons o' r' =>
      have z := ha 0 d rfl
      simp at z
      subst z
      exact ⟨v, r', F, B, rfl, h2, h3, Re.agree h4 (by simpa using hl) fun i d hd => by simpa using ha (i + 1) d (by simpa using hd)⟩
end
theorem wipe_out {σ : L2.St} {i : Nat} : ∀ {vs : List Nat}, i ∉ vs → (wipe σ vs)[i]? = σ[i]?
  | [], _ => rfl
  | v :: vs, h => by
    show ((wipe σ vs).set v none)[i]? = _
    have ne : v ≠ i := fun z => h (by rw [z]; exact List.mem_cons_self)
    rw [List.getElem?_set_ne ne, wipe_out fun z => h (List.mem_cons_of_mem _ z)]
theorem wipe_in {σ : L2.St} {i : Nat} : ∀ {vs : List Nat}, i ∈ vs → (wipe σ vs)[i]? = if i < σ.length then some none else none
  | v :: vs, h => by
    show ((wipe σ vs).set v none)[i]? = _
    by_cases q : v = i
    · subst q
      rw [List.getElem?_set_self']
      by_cases l : v < σ.length
      · rw [if_pos l]
        have hw := List.getElem?_eq_getElem (l := wipe σ vs) (i := v) (by rw [wipe_length]; exact l)
        rw [hw]; rfl
      · rw [if_neg l]
        have : (wipe σ vs)[v]? = none := by rw [List.getElem?_eq_none_iff, wipe_length]; omega
        rw [this]; rfl
    · rw [List.getElem?_set_ne q]
      exact wipe_in ((List.mem_cons.mp h).resolve_left fun z => q z.symm)
theorem wipe_ext {σ σ2 : L2.St} {vs : List Nat} (hl : σ2.length = σ.length) (h : ∀ i, i ∉ vs → σ2[i]? = σ[i]?) : wipe σ2 vs = wipe σ vs := by
  refine List.ext_getElem? fun i => ?_
  by_cases q : i ∈ vs
  · rw [wipe_in q, wipe_in q, hl]
  · rw [wipe_out q, wipe_out q, h i q]
theorem wipeE_in {e : En} {i : Nat} {d : D} : ∀ {vs : List Nat}, i ∈ vs → (wipeE e vs)[i]? ≠ some (some d)
  | v :: vs, h => by
    show ((wipeE e vs).set v none)[i]? ≠ _
    by_cases q : v = i
    · subst q
      intro z
      obtain ⟨z1, z2⟩ := List.getElem?_eq_some_iff.mp z
      rw [List.getElem_set_self] at z2
      cases z2
    · rw [List.getElem?_set_ne q]
      exact wipeE_in ((List.mem_cons.mp h).resolve_left fun z => q z.symm)
/-! ### targets keep the slots' number -/
theorem setPl_len : ∀ (pl : Pl) (d : D) (e : En), (setPl pl d e).length = e.length
  | .v i, d, e => by show (e.set i _).length = _; rw [List.length_set]
  | .f p c f, d, e => by
    unfold setPl
    split
    · exact setPl_len p _ e
    · rfl
mutual
theorem asT_len : ∀ (t : Tg) (p : P) (e e' : En), asT t p e = some e' → e'.length = e.length
  | .n i, p, e, e', q => by
    unfold asT at q
    split at q
    · cases q; rw [List.length_set]
    · cases q
  | .t l, p, e, e', q => by
    cases p with
    | tup b ps =>
      unfold asT at q
      exact asTs_len l ps e e' q
    | _ => unfold asT at q; cases q
  | .s pl f, p, e, e', q => by
    have q' : ((getPl pl e).bind fun d => if d.ty = "" then none else (f e).bind fun k => (putD d k p).map fun d' => setPl pl d' e) = some e' := by
      unfold asT at q; exact q
    obtain ⟨d, q1, q2⟩ := Option.bind_eq_some_iff.mp q'
    split at q2
    · cases q2
    · obtain ⟨kk, q3, q4⟩ := Option.bind_eq_some_iff.mp q2
      obtain ⟨d', q5, q6⟩ := Option.map_eq_some_iff.mp q4
      subst q6
      exact setPl_len pl d' e
theorem asTs_len : ∀ (l : List Tg) (ps : List P) (e e' : En), asTs l ps e = some e' → e'.length = e.length
  | [], [], e, e', q => by unfold asTs at q; cases q; rfl
  | [], _ :: _, e, e', q => by unfold asTs at q; cases q
  | _ :: _, [], e, e', q => by unfold asTs at q; cases q
  | t :: l, p :: ps, e, e', q => by
    unfold asTs at q
    obtain ⟨e1, q1, q2⟩ := Option.bind_eq_some_iff.mp q
    rw [asTs_len l ps e1 e' q2, asT_len t p e e1 q1]
end
/-! ### an object aside -/
section
variable {K : PySem.W.Frag} {Z H Z' H' : Hp} {A : List Addr} {D : Addr} {u : HO} {σ : L2.St} {e : En}
theorem Stp.side (s : Stp A Z H Z' H') (hD : D ∈ A ∨ H D = none) (zD : Z' D = none) : Stp A Z H Z' (upd H' D u) := by
  refine ⟨s.z, fun b o hb => ?_, fun b o hb hn => ?_, s.new⟩
  · have ne : b ≠ D := fun z => by rw [z, zD] at hb; cases hb
    rw [upd_ne ne]; exact s.zh _ _ hb
  · have ne : b ≠ D := fun z => by
      rcases hD with w | w
      · exact hn (z ▸ w)
      · rw [z, w] at hb; cases hb
    rw [upd_ne ne]; exact s.keep b o hb hn
theorem Ok.side (o : Ok K Z H σ e A) (hD : D ∉ A) (zD : Z D = none) : Ok K Z (upd H D u) σ e A := by
  refine ⟨fun b ob hb => ?_, Re.mono (.refl _) e σ A (fun b hb ob hob => ?_) o.re, o.nd, o.off⟩
  · have ne : b ≠ D := fun z => by rw [z, zD] at hb; cases hb
    rw [upd_ne ne]; exact o.zh _ _ hb
  · have ne : b ≠ D := fun z => hD (z ▸ hb)
    rw [upd_ne ne]; exact hob
end
end VL
end

section
set_option Elab.async false
set_option linter.all false
set_option maxRecDepth 100000
namespace VL
open PySem PySem.Spec L2

/-! ### [e for t in it if c] -/
def lcE (vs : List Nat) (u : Tg) (ts : ET) (fe : EF) : List P → En → Option (List P × En)
  | [], e => some ([], e)
  | p :: l, e => (asT u p e).bind fun e1 => (ts e1).bind fun b => if b.1 = true then (fe b.2).bind fun y => (lcE vs u ts fe l (wipeE y.2 vs)).map fun r => (y.1 :: r.1, r.2) else lcE vs u ts fe l (wipeE b.2 vs)
def dLc (vs : List Nat) (u : Tg) (ts : ET) (fe : EF) (fi : EI) : ED := fun e => (fi e).bind fun q => (lcE vs u ts fe q.1 (wipeE q.2 vs)).bind fun r => if r.1.length ≤ sizeLine ∧ (∀ i ∈ vs, i < q.2.length) then some (.lst r.1, r.2) else none
theorem wipeE_len (e : En) : ∀ vs : List Nat, (wipeE e vs).length = e.length
  | [] => rfl
  | v :: vs => by show ((wipeE e vs).set v none).length = _; rw [List.length_set, wipeE_len e vs]
theorem EvD.lc {K : PySem.W.Frag} {vs : List Nat} {u : Tg} {ts : ET} {fe : EF} {fi : EI} : EvD K (tLc (cI K fi) (cG K vs u) (cT K ts) (cF K fe) vs) (dLc vs u ts fe fi) := fun σ H Z e e' A d Q o q k => by
  unfold dLc at q
  obtain ⟨⟨l, e1⟩, q1, q⟩ := Option.bind_eq_some_iff.mp q
  obtain ⟨⟨res, e2⟩, q2, q⟩ := Option.bind_eq_some_iff.mp q
  dsimp only at q2 q
  split at q
  · rename_i hlen
    cases q
    refine ⟨Z, e, e1, A, l, o, q1, fun Z1 H1 A1 J s1 o1 b1 it => fun D hD => ?_⟩
    have dA : D ∈ A ∨ H D = none := s1.nn hD
    obtain ⟨Aw, ow, sw⟩ := o1.wipe vs
    have dAw : D ∉ Aw := fun z => by
      obtain ⟨w, hw⟩ := Re.there _ _ _ o1.re D (sw D z)
      rw [hD] at hw; cases hw
    have dZ : Z1 D = none := o1.zh.free hD
    refine ⟨fun i m H' => m = l.length - i ∧ i ≤ l.length ∧ ∃ Z' e0 A' acc vacc rest, Stp A Z H Z' H' ∧ Same Z1 Z' ∧ Ok K Z' H' (wipe σ vs) e0 A' ∧ Sub A H A' ∧ H' D = some (.lst vacc) ∧ Rps K Z' acc vacc ∧ D ∉ A' ∧ Z' D = none ∧
      lcE vs u ts fe (l.drop i) e0 = some (rest, e') ∧ acc ++ rest = res ∧ (∀ i ∈ vs, ∀ d, e0[i]? ≠ some (some d)), ?_, ?_⟩
    · refine ⟨_, rfl, Nat.zero_le _, Z1, wipeE e1 vs, Aw, [], [], res, s1.side dA dZ, .refl _, ow.side dAw dZ, fun a ha => b1 a (sw a ha), upd_same, rfl, dAw, dZ, by simpa using q2, rfl, fun i hi d => wipeE_in hi⟩
    · rintro i m H' ⟨rfl, hi, Z', e0, A', acc, vacc, rest, w1, w2, w3, w4, w5, w6, w7, w8, w9, w10, w11⟩
      by_cases hlt : i < l.length
      · have ed : l.drop i = l[i] :: l.drop (i + 1) := List.drop_eq_getElem_cons hlt
        rw [ed] at w9
        unfold lcE at w9
        obtain ⟨ea, g1, w9⟩ := Option.bind_eq_some_iff.mp w9
        obtain ⟨⟨b, eb⟩, g2, w9⟩ := Option.bind_eq_some_iff.mp w9
        obtain ⟨j1, j2⟩ := (it Z' H' i w2 w3.zh).1 l[i] (by simp [hlt])
        refine .inr ⟨j1, fun H2 => (i + 1 ≤ l.length ∧ ∃ Z' e0 A' acc vacc rest, Stp A Z H Z' H2 ∧ Same Z1 Z' ∧ Ok K Z' H2 (wipe σ vs) e0 A' ∧ Sub A H A' ∧ H2 D = some (.lst vacc) ∧ Rps K Z' acc vacc ∧ D ∉ A' ∧ Z' D = none ∧
          lcE vs u ts fe (l.drop (i + 1)) e0 = some (rest, e') ∧ acc ++ rest = res ∧ (∀ i ∈ vs, ∀ d, e0[i]? ≠ some (some d))), fun H2 h => ⟨l.length - (i + 1), by omega, rfl, h.1, h.2⟩, ?_⟩
        intro x H2 y
        obtain ⟨Zn, xn, y2⟩ := j2 x H2 y
        have w1 := w1.trans w4 (xn.stp (A := A'))
        have w2 := w2.trans xn.z
        have w8' : Zn D = none := by
          cases zz : Zn D with
          | none => rfl
          | some u =>
            rcases xn.new D u zz with w | w | ⟨_, w⟩
            · rw [w8] at w; cases w
            · rw [w5] at w; cases w
            · rw [w5] at w; cases w
        have w5 := xn.h _ _ w5
        have w6 := Rps.mono xn.z _ _ w6
        have w8 := w8'
        refine ⟨Zn, e0, ea, A', l[i], w3.ex xn, y2, g1, fun σ2 Z2 H3 A2 s2 o2 b2 f2 => ?_⟩
        have lenσ : σ2.length = σ.length := by
          rw [← o2.re.len, asT_len u l[i] e0 ea g1, w3.re.len, wipe_length]
        have keepσ : ∀ j, j ∉ vs → σ2[j]? = σ[j]? := fun j hj => by rw [f2 j hj, wipe_out hj]
        have we : wipe σ2 vs = wipe σ vs := wipe_ext lenσ keepσ
        -- D stays aside
        have aside : ∀ {Za Ha Zb Hb : Hp} {Aa Ab : List Addr}, Stp Aa Za Ha Zb Hb → Sub Aa Ha Ab → Ha D = some (.lst vacc) → D ∉ Aa → Za D = none → Hb D = some (.lst vacc) ∧ D ∉ Ab ∧ Zb D = none := fun {Za Ha Zb Hb Aa Ab} s b hd hn hz => by
          refine ⟨s.keep D _ hd hn, fun z => ?_, ?_⟩
          · rcases b D z with w | w
            · exact hn w
            · rw [hd] at w; cases w
          · cases zz : Zb D with
            | none => rfl
            | some u =>
              rcases s.new D u zz with w | w | w | ⟨_, w⟩
              · rw [hz] at w; cases w
              · exact absurd w hn
              · rw [hd] at w; cases w
              · rw [hd] at w; cases w
        obtain ⟨d1, d2, d3⟩ := aside s2 b2 w5 w7 w8
        refine ⟨we, ?_⟩
        have sA2 := w1.trans w4 s2
        have bA2 := Sub.trans w1 w4 b2
        refine ⟨Z2, ea, A2, b, eb, o2, g2, fun Z3 H4 A3 s3 o3 b3 => ?_⟩
        obtain ⟨d4, d5, d6⟩ := aside s3 b3 d1 d2 d3
        have sA3 := sA2.trans bA2 s3
        have bA3 := Sub.trans sA2 bA2 b3
        have zz3 : Same Z1 Z3 := (w2.trans s2.z).trans s3.z
        have racc3 : Rps K Z3 acc vacc := Rps.mono (s2.z.trans s3.z) _ _ w6
        cases b with
        | true =>
          rw [if_pos rfl] at w9 ⊢
          obtain ⟨⟨py, ey⟩, g3, w9⟩ := Option.bind_eq_some_iff.mp w9
          obtain ⟨⟨rest', er⟩, g4, g5⟩ := Option.map_eq_some_iff.mp w9
          cases g5
          refine ⟨Z3, eb, A3, py, ey, o3, g3, fun Z4 H5 v A4 s4 o4 b4 r4 => ?_⟩
          obtain ⟨d7, d8, d9⟩ := aside s4 b4 d4 d5 d6
          have sA4 := sA3.trans bA3 s4
          have bA4 := Sub.trans sA3 bA3 b4
          have racc4 : Rps K Z4 acc vacc := Rps.mono s4.z _ _ racc3
          obtain ⟨A5, o5, s5⟩ := o4.wipe vs
          rw [we] at o5
          refine ⟨vacc, d7, ?_, hlt, Z4, wipeE ey vs, A5, acc ++ [py], vacc ++ [v], rest', sA4.side dA d9, zz3.trans s4.z, o5.side (fun z => d8 (s5 D z)) d9, fun a ha => bA4 a (s5 a ha), upd_same, racc4.append (Rps.singleton r4), fun z => d8 (s5 D z), d9, g4, ?_, fun i hi d => wipeE_in hi⟩
          · rw [← racc4.length]
            have hz := hlen.1
            rw [← w10] at hz
            rw [List.length_append, List.length_cons] at hz
            omega
          · rw [← w10]
            simp
        | false =>
          rw [if_neg (show ¬ (false = true) by decide)] at w9 ⊢
          obtain ⟨A5, o5, s5⟩ := o3.wipe vs
          rw [we] at o5
          exact ⟨hlt, Z3, wipeE eb vs, A5, acc, vacc, rest, sA3, zz3, o5, fun a ha => bA3 a (s5 a ha), d4, racc3, fun z => d5 (s5 D z), d6, w9, w10, fun i hi d => wipeE_in hi⟩
      · have e0' : i = l.length := by omega
        subst e0'
        rw [List.drop_length] at w9
        unfold lcE at w9
        cases w9
        refine .inl ⟨(it Z' H' _ w2 w3.zh).2 rfl, ?_⟩
        rw [List.append_nil] at w10
        subst w10
        have re : Re K Z' H' e' σ A' := by
          refine Re.agree w3.re (by rw [wipe_length]) fun j d hj => ?_
          have nj : j ∉ vs := fun z => w11 j z d hj
          rw [wipe_out nj]
        refine k Z' H' (.ref D) A' [D] w1 ⟨w3.zh, re, w3.nd, w3.off⟩ ⟨D, vacc, rfl, rfl, w5, w6⟩ (List.nodup_cons.mpr ⟨w7, w3.nd⟩) (fun a ha => by rw [List.mem_singleton.mp ha]; exact w8) fun a ha => ?_
        rcases List.mem_cons.mp ha with z | z
        · rw [z]; exact dA
        · exact w4 a z
  · cases q
section
variable {X : Cx} {elt tg iter : Expr} {ifs : List Expr} {scope : Scope} {own : List (Str × Nat)} {pos : Pos} {u : Tg} {ts : ET} {fe : EF} {fi : EI}
theorem vd_lc (own : List (Str × Nat)) (hc : X.calm = true) (hN : X.N.Nodup) (ok : BlkOk X.N X.env.scope scope own) (hi : VI X tg iter fi)
    (hg : ∀ (s : Shared) (H : Hp) (C : Addr) (cl : List (Str × Addr)) (fp : List Addr), VG (X.blk s H scope (compEnvC scope cl C X.env) fp) (own.map (·.2)) tg u)
    (ht : ∀ (s : Shared) (H : Hp) (C : Addr) (cl : List (Str × Addr)) (fp : List Addr), VTs (X.blk s H scope (compEnvC scope cl C X.env) fp) ifs ts)
    (he : ∀ (s : Shared) (H : Hp) (C : Addr) (cl : List (Str × Addr)) (fp : List Addr), VF (X.blk s H scope (compEnvC scope cl C X.env) fp) elt fe)
    (hs : ∀ x, foldedSetIterable iter X.env x = pure x := by intro _; rfl) : VD X (.ListComp elt [⟨tg, iter, ifs, 0⟩] scope pos) (dLc (own.map (·.2)) u ts fe fi) :=
  ⟨_, pe_lc (g := cG X.K (own.map (·.2)) u) (tt := cT X.K ts) (te := cF X.K fe) hc hN hi.pi ok (fun s H C cl fp => (hg s H C cl fp).pg) (fun s H C cl fp => (ht s H C cl fp).out) (fun s H C cl fp => (he s H C cl fp).pe) hs, EvD.lc⟩
/-- y = [..] on one line -/
theorem vs_setLc {W : List Nat} {i : Nat} {y : Str} {py spos : Pos} (own : List (Str × Nat)) (hc : X.calm = true) (hN : X.N.Nodup) (hy : X.N[i]? = some y) (hyl : X.env.scope.names.lookup y = some .local) (hw : i ∈ W)
    (hsw : swapsWith (.ListComp elt [⟨tg, iter, ifs, 0⟩] scope pos) (some (.Name y py)) spos.line X.env = pure true) (ok : BlkOk X.N X.env.scope scope own) (hi : VI X tg iter fi)
    (hg : ∀ (s : Shared) (H : Hp) (C : Addr) (cl : List (Str × Addr)) (fp : List Addr), VG (X.blk s H scope (compEnvC scope cl C X.env) fp) (own.map (·.2)) tg u)
    (ht : ∀ (s : Shared) (H : Hp) (C : Addr) (cl : List (Str × Addr)) (fp : List Addr), VTs (X.blk s H scope (compEnvC scope cl C X.env) fp) ifs ts)
    (he : ∀ (s : Shared) (H : Hp) (C : Addr) (cl : List (Str × Addr)) (fp : List Addr), VF (X.blk s H scope (compEnvC scope cl C X.env) fp) elt fe)
    (hs : ∀ x, foldedSetIterable iter X.env x = pure x := by intro _; rfl) : VS X W (.Assign [.Name y py] (.ListComp elt [⟨tg, iter, ifs, 0⟩] scope pos) spos) (sSet i (dLc (own.map (·.2)) u ts fe fi)) := by
  refine ⟨_, ps_setLc (g := cG X.K (own.map (·.2)) u) (tt := cT X.K ts) (te := cF X.K fe) hc hN hy hyl hsw hi.pi ok (fun s H C cl fp => (hg s H C cl fp).pg) (fun s H C cl fp => (ht s H C cl fp).out) (fun s H C cl fp => (he s H C cl fp).pe) hs, fun σ H Z e A o E ok q c => ?_⟩
  unfold sSet at q
  obtain ⟨⟨d, e1⟩, q1, q2⟩ := Option.bind_eq_some_iff.mp q
  dsimp only at q2
  split at q2
  · rename_i hl
    cases q2
    refine EvD.lc _ ok q1 fun Z' H' v A' F s' o' r nd off b => ?_
    obtain ⟨A2, w1, w2⟩ := o'.set r nd off hl
    exact c _ Z' H' A2 s' w1 (fun a ha => b a (w2 a ha)) (.set hw)
  · cases q2
end
end VL
end

section
set_option Elab.async false
set_option linter.all false
set_option maxRecDepth 100000
namespace VL
open PySem PySem.Spec L2

/-! ### operators, one side a variable that is read where the operator is done -/
def fOpL (g : P → P → Option P) (i : Nat) (fb : EF) : EF := fun e => (match e[i]? with
  | some (some _) => some ()
  | _ => none).bind fun _ => (fb e).bind fun q => (eV i q.2).bind fun p => (g p q.1).map fun z => (z, q.2)
def fOpR (g : P → P → Option P) (fa : EF) (i : Nat) : EF := fun e => (fa e).bind fun q => (eV i q.2).bind fun p => (g q.1 p).map fun z => (z, q.2)
section
variable {K : PySem.W.Frag} {fa fb : EF} {ta tb : TE} {r : R2} {g : P → P → Option P} {i : Nat}
theorem EvF.opL (hr : OpV K r g) (hb : EvF K tb fb) : EvF K (tOp r (tVar i) tb) (fOpL g i fb) := fun σ H Z e e' A p Q o q k => by
  unfold fOpL at q
  obtain ⟨_, q0, q⟩ := Option.bind_eq_some_iff.mp q
  obtain ⟨⟨pb, e1⟩, qb, q⟩ := Option.bind_eq_some_iff.mp q
  obtain ⟨pa, qa, q⟩ := Option.bind_eq_some_iff.mp q
  obtain ⟨z, qz, q⟩ := Option.map_eq_some_iff.mp q
  cases q
  split at q0
  · rename_i d0 hd0
    obtain ⟨v, F, hv, _, _⟩ := o.re.get hd0
    refine ⟨v, hv, hb _ o qb fun Z1 H1 u A1 s1 o1 b1 r1 => ?_⟩
    unfold eV at qa
    split at qa
    · rename_i d1 hd1
      cases qa
      obtain ⟨v', F', hv', rv', _⟩ := o1.re.get hd1
      rw [hv] at hv'
      cases hv'
      refine hr Q o1.zh (RD.rr o1.zh d1 v F' rv') (Rp.rr o1.zh _ _ r1) qz fun Z3 H3 w x3 r3 => ?_
      exact k Z3 H3 w A1 (s1.trans b1 x3.stp) (o1.ex x3) b1 r3
    · cases qa
  · cases q0
theorem EvF.opR (hr : OpV K r g) (ha : EvF K ta fa) : EvF K (tOp r ta (tVar i)) (fOpR g fa i) := fun σ H Z e e' A p Q o q k => by
  unfold fOpR at q
  obtain ⟨⟨pa, e1⟩, qa, q⟩ := Option.bind_eq_some_iff.mp q
  obtain ⟨pb, qb, q⟩ := Option.bind_eq_some_iff.mp q
  obtain ⟨z, qz, q⟩ := Option.map_eq_some_iff.mp q
  cases q
  refine ha _ o qa fun Z1 H1 u A1 s1 o1 b1 r1 => ?_
  unfold eV at qb
  split at qb
  · rename_i d1 hd1
    cases qb
    obtain ⟨v, F, hv, rv, _⟩ := o1.re.get hd1
    refine ⟨v, hv, hr Q o1.zh (Rp.rr o1.zh _ _ r1) (RD.rr o1.zh d1 v F rv) qz fun Z3 H3 w x3 r3 => ?_⟩
    exact k Z3 H3 w A1 (s1.trans b1 x3.stp) (o1.ex x3) b1 r3
  · cases qb
end
section
variable {X : Cx} {a b : Expr} {ga gb : EF} {pos p : Pos} {y : Str}
theorem vf_opL {op : Operator} {g : P → P → Option P} (i : Nat) (ho : Opr X (binaryOp op) g) (hx : PE X (.Name y p) (tVar i)) (hb : VF X b gb) : VF X (.BinOp (.Name y p) op b pos) (fOpL g i gb) := by
  obtain ⟨r, ho, hr⟩ := ho
  obtain ⟨tb, h3, h4⟩ := hb.out
  exact ⟨_, pe_op ho hx h3, EvF.opL hr h4⟩
theorem vf_opR {op : Operator} {g : P → P → Option P} (i : Nat) (ho : Opr X (binaryOp op) g) (ha : VF X a ga) (hx : PE X (.Name y p) (tVar i)) : VF X (.BinOp a op (.Name y p) pos) (fOpR g ga i) := by
  obtain ⟨r, ho, hr⟩ := ho
  obtain ⟨ta, h1, h2⟩ := ha.out
  exact ⟨_, pe_op ho h1 hx, EvF.opR hr h2⟩
theorem vf_cmpL {op : CmpOp} {g : P → P → Option P} (i : Nat) (ho : Opr X (compareOp op) g) (hx : PE X (.Name y p) (tVar i)) (hb : VF X b gb) (hm : behindInMarks op b = false := by first | exact nomark _ | rfl) : VF X (.Compare (.Name y p) [op] [b] pos) (fOpL g i gb) := by
  obtain ⟨r, ho, hr⟩ := ho
  obtain ⟨tb, h3, h4⟩ := hb.out
  exact ⟨_, pe_cmpR ho hx h3 hm, EvF.opL hr h4⟩
theorem vf_cmpR {op : CmpOp} {g : P → P → Option P} (i : Nat) (ho : Opr X (compareOp op) g) (ha : VF X a ga) (hx : PE X (.Name y p) (tVar i)) (hm : behindInMarks op (.Name y p) = false := by first | exact nomark _ | rfl) : VF X (.Compare a [op] [.Name y p] pos) (fOpR g ga i) := by
  obtain ⟨r, ho, hr⟩ := ho
  obtain ⟨ta, h1, h2⟩ := ha.out
  exact ⟨_, pe_cmpR ho h1 hx hm, EvF.opR hr h2⟩
theorem vt_cmpL {op : CmpOp} {g : P → P → Option P} (i : Nat) (ho : Opr X (compareOp op) g) (hx : PE X (.Name y p) (tVar i)) (hb : VF X b gb) (hm : behindInMarks op b = false := by first | exact nomark _ | rfl) : VT X (.Compare (.Name y p) [op] [b] pos) (tF (fOpL g i gb)) := by
  obtain ⟨r, ho, hr⟩ := ho
  obtain ⟨tb, h3, h4⟩ := hb.out
  exact ⟨_, pt_cmpR ho hx h3 hm, EvT.ofF (EvF.opL hr h4)⟩
theorem vt_cmpR' {op : CmpOp} {g : P → P → Option P} (i : Nat) (ho : Opr X (compareOp op) g) (ha : VF X a ga) (hx : PE X (.Name y p) (tVar i)) (hm : behindInMarks op (.Name y p) = false := by first | exact nomark _ | rfl) : VT X (.Compare a [op] [.Name y p] pos) (tF (fOpR g ga i)) := by
  obtain ⟨r, ho, hr⟩ := ho
  obtain ⟨ta, h1, h2⟩ := ha.out
  exact ⟨_, pt_cmpR ho h1 hx hm, EvT.ofF (EvF.opR hr h2)⟩
/-- x[e], x a variable -/
theorem vf_ixL (i : Nat) (hu : X.A.units + 1 < cLine) (hx : PE X (.Name y p) (tVar i)) (hb : VF X b gb) (hs : PlainIx b := by exact fun _ _ => rfl) : VF X (.Subscript (.Name y p) b pos) (fOpL pIx i gb) := by
  obtain ⟨tb, h3, h4⟩ := hb.out
  refine ⟨_, PE.or (pe_ix (IxR.or ix_list (IxR.or ix_tup ix_str)) hx h3 hs) (pe_dget hu hx h3 hs), EvF.or (EvF.opL ov_ixA h4) (EvF.opL (r := rIxD) ov_ixD h4) ?_⟩
  intro e q h
  unfold fOpL at h ⊢
  obtain ⟨u, q0, h⟩ := Option.bind_eq_some_iff.mp h
  obtain ⟨qb, q1, h⟩ := Option.bind_eq_some_iff.mp h
  obtain ⟨pa, q2, h⟩ := Option.bind_eq_some_iff.mp h
  obtain ⟨z, qz, h⟩ := Option.map_eq_some_iff.mp h
  rw [q0, Option.bind_some, Option.bind_some, q1, Option.bind_some, Option.bind_some, q2, Option.bind_some, Option.bind_some]
  exact (pIx_or _ _ z qz).imp (fun w => by rw [w]; exact congrArg some h) fun w => by rw [w]; exact congrArg some h
end
/-! ### d.get(k, x) -/
def pGet (d k z : P) : Option P := match d with
  | .dK ks l => k.key.map fun j => (look ks l j).getD z
  | .dT ks l => k.tkey.map fun j => (look ks l j).getD z
  | _ => none
def eGet (fd fk fz : EQ) : EQ := fun e => (fd e).bind fun d => (fk e).bind fun k => (fz e).bind fun z => pGet d k z
theorem vq_get2 {X : Cx} {o a b : Expr} {fd fk fz : EQ} {apos cpos : Pos} (hu : X.A.units + 1 < cLine) (ho : VR X o fd) (ha : VR X a fk) (hb : VQ X b fz) (m : M2 X o "get" apos a b cpos := by exact ⟨rfl, rfl, rfl, rfl⟩) : VQ X (.Call (.Attribute o "get" apos) [a, b] [] cpos) (eGet fd fk fz) := by
  obtain ⟨to, h1, h2⟩ := ho.out
  obtain ⟨ta, h3, h4⟩ := ha.out
  obtain ⟨tb, h5, h6⟩ := hb.out
  refine ⟨_, pe_dget2 hu h1 h3 h5 m, fun σ H Z e A p Q o q k => ?_⟩
  unfold eGet at q
  obtain ⟨d, q1, q⟩ := Option.bind_eq_some_iff.mp q
  obtain ⟨kk, q2, q⟩ := Option.bind_eq_some_iff.mp q
  obtain ⟨z, q3, q⟩ := Option.bind_eq_some_iff.mp q
  refine h2 _ o q1 fun Z1 H1 v x1 r1 => ?_
  have fin : ∀ a0, v = .ref a0 → IsD H1 a0 → (∀ H3 y o', DGet H3 a0 y o' → True) → True := fun _ _ _ _ => trivial
  unfold pGet at q
  cases d with
  | dK ks l =>
    obtain ⟨j, q4, q5⟩ := Option.map_eq_some_iff.mp q
    subst q5
    obtain ⟨a0, kvs, e1, e2, e3, e4⟩ := id r1
    refine ⟨a0, e1, .inl ⟨kvs, e2⟩, h4 _ (o.ex x1) q2 fun Z2 H2 y x2 r2 => h6 _ ((o.ex x1).ex x2) q3 fun Z3 H3 w x3 r3 => ?_⟩
    have rd := Rr.mono (x2.z.trans x3.z) (x2.h.trans x3.h) _ _ r1
    have rk := Rr.mono x3.z x3.h _ _ r2
    obtain ⟨a1, oo, g1, g2, g3⟩ := Rr.look x3.zh rk rd ks l j rfl q4
    rw [e1] at g1
    cases g1
    refine ⟨oo, g2, k Z3 H3 _ ((x1.trans x2).trans x3) ?_⟩
    split at g3 <;> rename_i hl
    · obtain ⟨vv, g4, g5⟩ := g3
      rw [hl, g4]; exact g5
    · rw [hl, g3]; exact r3
  | dT ks l =>
    obtain ⟨j, q4, q5⟩ := Option.map_eq_some_iff.mp q
    subst q5
    obtain ⟨a0, kvs, e1, e2, e3, e4⟩ := id r1
    refine ⟨a0, e1, .inr ⟨kvs, e2⟩, h4 _ (o.ex x1) q2 fun Z2 H2 y x2 r2 => h6 _ ((o.ex x1).ex x2) q3 fun Z3 H3 w x3 r3 => ?_⟩
    have rd := Rr.mono (x2.z.trans x3.z) (x2.h.trans x3.h) _ _ r1
    have rk := Rr.mono x3.z x3.h _ _ r2
    obtain ⟨a1, oo, g1, g2, g3⟩ := Rr.lookT x3.zh rk rd ks l j rfl q4
    rw [e1] at g1
    cases g1
    refine ⟨oo, g2, k Z3 H3 _ ((x1.trans x2).trans x3) ?_⟩
    split at g3 <;> rename_i hl
    · obtain ⟨vv, g4, g5⟩ := g3
      rw [hl, g4]; exact g5
    · rw [hl, g3]; exact r3
  | _ => cases q
/-! ### a, b = (e, f), each one's own -/
def asDs : List Nat → List D → En → Option En
  | [], [], e => some e
  | i :: is, d :: ds, e => if i < e.length then asDs is ds (e.set i (some d)) else none
  | _, _, _ => none
end VL
end

section
set_option Elab.async false
set_option linter.all false
set_option maxRecDepth 100000
namespace VL
open PySem PySem.Spec L2

theorem hu64_of {A : Around} {k : Nat} (hr : Room k A) : A.units + 64 < cLine := by have := hr.un; omega
theorem hu65_of {A : Around} {k : Nat} (hr : Room k A) : A.units + 65 < cLine := by have := hr.un; omega
theorem vb_len : bootBuiltins "len" = some (.builtin "len") := by decide +kernel
theorem vb_abs : bootBuiltins "abs" = some (.builtin "abs") := by decide +kernel
theorem vb_max : bootBuiltins "max" = some (.builtin "max") := by decide +kernel
theorem vb_min : bootBuiltins "min" = some (.builtin "min") := by decide +kernel
theorem vb_all : bootBuiltins "all" = some (.builtin "all") := by decide +kernel
theorem vb_any : bootBuiltins "any" = some (.builtin "any") := by decide +kernel
theorem vb_sorted : bootBuiltins "sorted" = some (.builtin "sorted") := by decide +kernel
theorem vb_repr : bootBuiltins "repr" = some (.builtin "repr") := by decide +kernel
theorem vb_sum : bootBuiltins "sum" = some (.builtin "sum") := by decide +kernel
theorem vb_isinstance : bootBuiltins "isinstance" = some (.builtin "isinstance") := by decide +kernel
theorem vb_tuple : bootBuiltins "tuple" = some (.type "tuple") := by decide +kernel
theorem vb_list : bootBuiltins "list" = some (.type "list") := by decide +kernel
theorem vb_set : bootBuiltins "set" = some (.type "set") := by decide +kernel
theorem vb_dict : bootBuiltins "dict" = some (.type "dict") := by decide +kernel
theorem vb_int : bootBuiltins "int" = some (.type "int") := by decide +kernel
theorem vb_str : bootBuiltins "str" = some (.type "str") := by decide +kernel
/-! ### a, b = e, f -/
def sPar (i j : Nat) (fa fb : ED) : ES := fun e => (fa e).bind fun p => (fb p.2).bind fun q => if i < q.2.length ∧ j < q.2.length then some (.nx ((q.2.set i (some p.1)).set j (some q.1))) else none
theorem vs_par {X : Cx} {W : List Nat} {i j : Nat} {x y : Str} {a b : Expr} {fa fb : ED} {px py pt pos : Pos} {kt k2 pt2} (hc : X.calm = true) (hN : X.N.Nodup) (hi : X.N[i]? = some x) (hj : X.N[j]? = some y) (hij : i ≠ j)
    (hx : X.env.scope.names.lookup x = some .local) (hy : X.env.scope.names.lookup y = some .local) (ha : VD X a fa) (hb : VD X b fb) (hwi : i ∈ W) (hwj : j ∈ W)
    (hw : swappedStores [.Tuple [.Name x px, .Name y py] kt pt] (.Tuple [a, b] k2 pt2) X.env = pure (some [x, y]) := by rfl)
    (hs : swapsWithSole [.Tuple [.Name x px, .Name y py] kt pt] (.Tuple [a, b] k2 pt2) pos.line X.env = pure false := by rfl)
    (h1 : starEach [a, b] X.env = (false, eval a X.env) :: starEach [b] X.env := by rfl) (h2 : starEach [b] X.env = (false, eval b X.env) :: starEach [] X.env := by rfl) :
    VS X W (.Assign [.Tuple [.Name x px, .Name y py] kt pt] (.Tuple [a, b] k2 pt2) pos) (sPar i j fa fb) := by
  obtain ⟨t, t1, t2⟩ := (va_val ha (va_val hb va_nil h2) h1).out
  refine ⟨_, ps_par hc hN hi hj hij hx hy t1 hw hs, fun σ H Z e A o E ok q c => ?_⟩
  unfold sPar at q
  obtain ⟨⟨d1, e1⟩, q1, q⟩ := Option.bind_eq_some_iff.mp q
  obtain ⟨⟨d2, e2⟩, q2, q⟩ := Option.bind_eq_some_iff.mp q
  dsimp only at q2 q
  split at q
  · rename_i hl
    cases q
    have qa : evA [.val fa, .val fb] e = some ([.inl d1, .inl d2], e2) := by
      show (fa e).bind _ = _
      rw [q1, Option.bind_some]
      show ((fb e1).bind _).map _ = _
      rw [q2]
      rfl
    refine t2 _ ok qa fun Z' H' vs A' T s' o' ra nd off b => ?_
    obtain ⟨v, us, F1, B1, g1, g2, g3, g4⟩ := ra
    obtain ⟨w, us2, F2, B2, g5, g6, g7, g8⟩ := g4
    obtain ⟨g9, g10⟩ := g8
    subst g10
    subst g9
    rw [List.append_nil] at g6
    subst g6
    subst g5
    subst g1
    subst g2
    rw [List.append_assoc] at nd
    have n1 : (F1 ++ A').Nodup := nd_sub nd
    obtain ⟨A2, w1, w2⟩ := o'.set (i := i) g3 n1 (fun a ha => off a (List.mem_append_left _ ha)) hl.1
    have nd' := nd
    rw [List.nodup_append] at nd'
    have n2 : (B1 ++ A2).Nodup := by
      have z := nd'.2.1
      rw [List.nodup_append] at z ⊢
      refine ⟨z.1, w1.nd, fun a ha b hb eq => ?_⟩
      subst eq
      rcases List.mem_append.mp (w2 a hb) with y | y
      · exact nd'.2.2 a y a (List.mem_append_left _ ha) rfl
      · exact z.2.2 a ha a y rfl
    obtain ⟨A3, w3, w4⟩ := w1.set (i := j) g7 n2 (fun a ha => off a (List.mem_append_right _ ha)) (by rw [List.length_set]; exact hl.2)
    refine ⟨v, w, rfl, c _ Z' H' A3 s' w3 (fun a ha => ?_) ((Fix.set hwi).trans (.set hwj))⟩
    rcases List.mem_append.mp (w4 a ha) with y | y
    · exact b a (List.mem_append_left _ (List.mem_append_right _ y))
    · rcases List.mem_append.mp (w2 a y) with y | y
      · exact b a (List.mem_append_left _ (List.mem_append_left _ y))
      · exact b a (List.mem_append_right _ y)
  · cases q
/-! ### all, sorted, repr -/
def P.bools : List P → Option (List Bool)
  | [] => some []
  | .bl b :: l => (P.bools l).map fun r => b :: r
  | _ => none
def P.ints : List P → Option (List Int)
  | [] => some []
  | .int b :: l => (P.ints l).map fun r => b :: r
  | _ => none
section
variable {K : PySem.W.Frag} {Z H : Hp} {X : Cx}
theorem Rps.bools : ∀ {l : List P} {vs : List V} {bs : List Bool}, Rps K Z l vs → P.bools l = some bs → vs = bs.map V.bl
  | [], _, _, h, e => by cases e; exact h
  | p :: l, _, bs, ⟨v, r, h1, h2, h3⟩, e => by
    cases p with
    | bl b =>
      obtain ⟨r', e1, e2⟩ := Option.map_eq_some_iff.mp (show (P.bools l).map _ = _ from e)
      rw [h1, ← e2, List.map_cons, Rps.bools h3 e1, show v = _ from h2]
    | _ => cases e
theorem Rps.intsV : ∀ {l : List P} {vs : List V} {bs : List Int}, Rps K Z l vs → P.ints l = some bs → vs = bs.map V.int
  | [], _, _, h, e => by cases e; exact h
  | p :: l, _, bs, ⟨v, r, h1, h2, h3⟩, e => by
    cases p with
    | int b =>
      obtain ⟨r', e1, e2⟩ := Option.map_eq_some_iff.mp (show (P.ints l).map _ = _ from e)
      rw [h1, ← e2, List.map_cons, Rps.intsV h3 e1, show v = _ from h2]
    | _ => cases e
def gAll : List P → Option P
  | [.lst l] => (P.bools l).map fun bs => .bl (bs.all id)
  | _ => none
theorem cal_all (hc : X.calm = true) : Cal X (.builtin "all") gAll := ⟨_, cr_all hc, fun H Z vs ps z Q s h e k => by
  unfold gAll at e
  split at e
  · obtain ⟨bs, e1, e2⟩ := Option.map_eq_some_iff.mp e
    subst e2
    obtain ⟨v, h1, h2⟩ := rrs1 h
    obtain ⟨a, us, e3, h3, h4⟩ := h2
    subst e3
    rw [h4.bools e1] at h3
    exact ⟨a, bs, h1, SqL.of h3, k Z H _ (.refl s) rfl⟩
  · cases e⟩
/-- ints, rising -/
def insI (x : Int) : List Int → List Int
  | [] => [x]
  | y :: l => if x ≤ y then x :: y :: l else y :: insI x l
def sortI : List Int → List Int
  | [] => []
  | x :: l => insI x (sortI l)
theorem insI_perm (x : Int) : ∀ l, (insI x l).Perm (x :: l)
  | [] => .refl _
  | y :: l => by
    unfold insI
    split
    · exact .refl _
    · exact ((insI_perm x l).cons y).trans (.swap x y l)
theorem sortI_perm : ∀ l, (sortI l).Perm l
  | [] => .refl _
  | x :: l => (insI_perm x _).trans ((sortI_perm l).cons x)
theorem insI_sorted (x : Int) : ∀ {l : List Int}, l.Pairwise (· ≤ ·) → (insI x l).Pairwise (· ≤ ·)
  | [], _ => List.pairwise_singleton _ _
  | y :: l, h => by
    rw [List.pairwise_cons] at h
    unfold insI
    split
    · rename_i hxy
      refine List.pairwise_cons.mpr ⟨fun z hz => ?_, List.pairwise_cons.mpr h⟩
      rcases List.mem_cons.mp hz with q | q
      · rw [q]; exact hxy
      · exact Int.le_trans hxy (h.1 z q)
    · rename_i hxy
      refine List.pairwise_cons.mpr ⟨fun z hz => ?_, insI_sorted x h.2⟩
      rcases List.mem_cons.mp ((insI_perm x l).mem_iff.mp hz) with q | q
      · rw [q]; omega
      · exact h.1 z q
theorem sortI_sorted : ∀ l, (sortI l).Pairwise (· ≤ ·)
  | [] => .nil
  | x :: l => insI_sorted x (sortI_sorted l)
theorem sorted_unique : ∀ {l m : List Int}, l.Perm m → l.Pairwise (· ≤ ·) → m.Pairwise (· ≤ ·) → l = m
  | [], m, p, _, _ => (List.Perm.nil_eq p)
  | x :: l, [], p, _, _ => by have := p.length_eq; simp at this
  | x :: l, y :: m, p, h1, h2 => by
    rw [List.pairwise_cons] at h1 h2
    have hx : x ∈ y :: m := p.mem_iff.mp List.mem_cons_self
    have hy : y ∈ x :: l := p.mem_iff.mpr List.mem_cons_self
    have e : x = y := by
      rcases List.mem_cons.mp hx with q | q
      · exact q
      · rcases List.mem_cons.mp hy with q2 | q2
        · exact q2.symm
        · exact Int.le_antisymm (h1.1 y q2) (h2.1 x q)
    subst e
    rw [sorted_unique (p.cons_inv) h1.2 h2.2]
theorem Rps.ofInts (l : List Int) : Rps K Z (l.map P.int) (l.map V.int) := Rps.ints l
def gSorted : List P → Option P
  | [.lst l] => (P.ints l).map fun ns => .lst ((sortI ns).map P.int)
  | _ => none
theorem cal_sorted : Cal X (.builtin "sorted") gSorted := ⟨_, cr_sortedI, fun H Z vs ps z Q s h e k => by
  unfold gSorted at e
  split at e
  · obtain ⟨ns, e1, e2⟩ := Option.map_eq_some_iff.mp e
    subst e2
    obtain ⟨v, h1, h2⟩ := rrs1 h
    obtain ⟨a, us, e3, h3, h4⟩ := h2
    subst e3
    rw [h4.intsV e1] at h3
    refine ⟨a, ns, h1, SqL.of h3, fun ns' p hp hs hn => ?_⟩
    have en : ns' = sortI ns := sorted_unique (hp.trans (sortI_perm ns).symm) hs (sortI_sorted ns)
    subst en
    exact k _ _ _ (Ex.lay s hn) ⟨p, _, rfl, upd_same, Rps.mono (Ex.lay s hn).z _ _ (Rps.ints _)⟩
  · cases e⟩
theorem call_repr_bool : CallR X (.builtin "repr") (fun xs H Q => ∃ b, xs = [.bl b] ∧ Q (.str (if b then "True" else "False")) H) := by
  intro pins s σ H xs us Q I r h
  obtain ⟨b, rfl, q⟩ := h
  obtain ⟨u, rfl, rb⟩ := vals1 r
  cases rb
  exact PySem.P.repr_of_bool ⟨.str _, H, I.tok _, ⟨_, rfl⟩, q⟩
def gRepr : List P → Option P
  | [.bl b] => some (.str (if b then "True" else "False"))
  | _ => none
theorem cal_repr : Cal X (.builtin "repr") gRepr := ⟨_, call_repr_bool, fun H Z vs ps z Q s h e k => by
  unfold gRepr at e
  split at e
  · cases e
    obtain ⟨v, h1, h2⟩ := rrs1 h
    cases h2
    exact ⟨_, h1, k Z H _ (.refl s) rfl⟩
  · cases e⟩
end
end VL
end

section
set_option Elab.async false
set_option linter.all false
set_option maxRecDepth 100000
namespace VL
open PySem PySem.Spec PyProof.Rows L2

/-! ### a, b, c = e, f, g -/
def tPar3 (i j k : Nat) (ta : TA) : TS := fun D σ H => ta σ H fun vs H1 => ∃ v w u, vs = [v, w, u] ∧ D.nx (((σ.set i (some v)).set j (some w)).set k (some u)) H1
theorem ps_par3 {X : Cx} {i j k : Nat} {x y z : Str} {a b c : Expr} {ta : TA} {px py pz pt pos : Pos} {kt k2 pt2} (hc : X.calm = true) (hN : X.N.Nodup) (hi : X.N[i]? = some x) (hj : X.N[j]? = some y) (hk : X.N[k]? = some z) (hij : i ≠ j) (hik : i ≠ k) (hjk : j ≠ k)
    (hx : X.env.scope.names.lookup x = some .local) (hy : X.env.scope.names.lookup y = some .local) (hz : X.env.scope.names.lookup z = some .local) (ha : PA X [a, b, c] ta)
    (hw : swappedStores [.Tuple [.Name x px, .Name y py, .Name z pz] kt pt] (.Tuple [a, b, c] k2 pt2) X.env = pure (some [x, y, z]))
    (hs : swapsWithSole [.Tuple [.Name x px, .Name y py, .Name z pz] kt pt] (.Tuple [a, b, c] k2 pt2) pos.line X.env = pure false := by rfl) :
    PS X (.Assign [.Tuple [.Name x px, .Name y py, .Name z pz] kt pt] (.Tuple [a, b, c] k2 pt2) pos) (tPar3 i j k ta) := by
  refine ⟨fun pins s σ H D I h => ?_⟩
  rw [exec_Assign_arm]
  refine wpAny_bind (wpAny_standAt ?_)
  rw [hs]
  refine wpAny_bind (wpAny_pure ?_)
  rw [if_neg (by decide)]
  refine wpAny_bind (Tuple_ (thn (ha.run _ pins s σ H _ I h) fun us s1 ⟨vs, H1, I1, r1, q1⟩ => ?_))
  obtain ⟨v, w, u, e1, q1⟩ := q1
  subst e1
  obtain ⟨u1, u2, u3, rfl, rv, rw', ru⟩ : ∃ u1 u2 u3, us = [u1, u2, u3] ∧ RelV v u1 ∧ RelV w u2 ∧ RelV u u3 := by
    cases r1 with
    | cons p q =>
      cases q with
      | cons p' q' =>
        cases q' with
        | cons p'' q'' =>
          cases q''
          exact ⟨_, _, _, rfl, p, p', p''⟩
  refine wpAny_newObj_type ?_ (by show 3 ≤ sizeLine; decide)
  have I2 : Inv X pins σ H1 { s1 with heap := s1.heap.push { cls := .type "tuple", data := .seq [u1, u2, u3].toArray } } := I1.kept (t' := s1.toks) fun b o e => Heap.get?_push_of_some _ e
  rw [hw]
  refine wpAny_bind (wpAny_pure ?_)
  show wpAny (model X.prog X.w) X.A (do rule "assign.swapped-stores"; let items ← unpackItems (.ref s1.heap.objs.size) 3 none; assignInOrder [fun v => bindName X.env z v, fun v => bindName X.env y v, fun v => bindName X.env x v] items.reverse; pure Flow.next) _ _ _
  refine wpAny_bind (wpAny_rule (wpAny_bind (unpackItems_tuple (items := #[u1, u2, u3]) (I.ok.hd hc) (IsTup.new s1.heap _) fun h' hx' => ?_)))
  have I3 := I2.kept (h' := h') (t' := s1.toks) fun b o e => hx' b o (Nat.ne_of_lt (Heap.lt_size e)) e
  show wpAny _ _ (assignInOrder [fun v => bindName X.env z v, fun v => bindName X.env y v, fun v => bindName X.env x v] [u3, u2, u1] >>= fun _ => pure Flow.next) _ _ _
  refine wpAny_bind (assignInOrder_cons (wpAny_bindName (store_ok I3 hN hk (.inl hz) ru (fun s2 I4 => ?_) (.inr hz))))
  refine assignInOrder_cons (wpAny_bindName (store_ok I4 hN hj (.inl hy) rw' (fun s3 I5 => ?_) (.inr hy)))
  refine assignInOrder_cons (wpAny_bindName (store_ok I5 hN hi (.inl hx) rv (fun s4 I6 => assignInOrder_nil (wpAny_pure ?_)) (.inr hx)))
  have e : (((σ.set k (some u)).set j (some w)).set i (some v)) = (((σ.set i (some v)).set j (some w)).set k (some u)) := by
    rw [List.set_comm _ _ (Ne.symm hij), List.set_comm _ _ (Ne.symm hik), List.set_comm _ _ (Ne.symm hjk)]
  rw [e] at I6
  exact ⟨_, H1, I6, q1⟩
def sPar3 (i j k : Nat) (fa fb fc : ED) : ES := fun e => (fa e).bind fun p => (fb p.2).bind fun q => (fc q.2).bind fun r => if i < r.2.length ∧ j < r.2.length ∧ k < r.2.length then some (.nx (((r.2.set i (some p.1)).set j (some q.1)).set k (some r.1))) else none
/-- one more of one's own -/
theorem Ok.set1 {K : PySem.W.Frag} {Z H : Hp} {σ : L2.St} {e : En} {A F B : List Addr} {i : Nat} {d : D} {v : V} (o : Ok K Z H σ e A) (h : RD K Z H d v F) (nd : (F ++ (B ++ A)).Nodup) (off : ∀ a ∈ F, Z a = none) (hi : i < e.length) :
    ∃ A', Ok K Z H (σ.set i (some v)) (e.set i (some d)) A' ∧ (∀ a ∈ A', a ∈ F ++ A) ∧ (B ++ A').Nodup := by
  obtain ⟨A', w1, w2⟩ := o.set (i := i) h (nd_sub nd) off hi
  refine ⟨A', w1, w2, ?_⟩
  rw [List.nodup_append] at nd
  have z := nd.2.1
  rw [List.nodup_append] at z ⊢
  refine ⟨z.1, w1.nd, fun a ha b hb eq => ?_⟩
  subst eq
  rcases List.mem_append.mp (w2 a hb) with y | y
  · exact nd.2.2 a y a (List.mem_append_left _ ha) rfl
  · exact z.2.2 a ha a y rfl
theorem vs_par3 {X : Cx} {W : List Nat} {i j k : Nat} {x y z : Str} {a b c : Expr} {fa fb fc : ED} {px py pz pt pos : Pos} {kt k2 pt2} (hc : X.calm = true) (hN : X.N.Nodup) (hi : X.N[i]? = some x) (hj : X.N[j]? = some y) (hk : X.N[k]? = some z) (hij : i ≠ j) (hik : i ≠ k) (hjk : j ≠ k)
    (hx : X.env.scope.names.lookup x = some .local) (hy : X.env.scope.names.lookup y = some .local) (hz : X.env.scope.names.lookup z = some .local) (ha : VD X a fa) (hb : VD X b fb) (hcc : VD X c fc) (hwi : i ∈ W) (hwj : j ∈ W) (hwk : k ∈ W)
    (hw : swappedStores [.Tuple [.Name x px, .Name y py, .Name z pz] kt pt] (.Tuple [a, b, c] k2 pt2) X.env = pure (some [x, y, z]) := by rfl)
    (hs : swapsWithSole [.Tuple [.Name x px, .Name y py, .Name z pz] kt pt] (.Tuple [a, b, c] k2 pt2) pos.line X.env = pure false := by rfl)
    (h1 : starEach [a, b, c] X.env = (false, eval a X.env) :: starEach [b, c] X.env := by rfl) (h2 : starEach [b, c] X.env = (false, eval b X.env) :: starEach [c] X.env := by rfl) (h3 : starEach [c] X.env = (false, eval c X.env) :: starEach [] X.env := by rfl) :
    VS X W (.Assign [.Tuple [.Name x px, .Name y py, .Name z pz] kt pt] (.Tuple [a, b, c] k2 pt2) pos) (sPar3 i j k fa fb fc) := by
  obtain ⟨t, t1, t2⟩ := (va_val ha (va_val hb (va_val hcc va_nil h3) h2) h1).out
  refine ⟨_, ps_par3 hc hN hi hj hk hij hik hjk hx hy hz t1 hw hs, fun σ H Z e A o E ok q c => ?_⟩
  unfold sPar3 at q
  obtain ⟨⟨d1, e1⟩, q1, q⟩ := Option.bind_eq_some_iff.mp q
  obtain ⟨⟨d2, e2⟩, q2, q⟩ := Option.bind_eq_some_iff.mp q
  obtain ⟨⟨d3, e3⟩, q3, q⟩ := Option.bind_eq_some_iff.mp q
  dsimp only at q2 q3 q
  split at q
  · rename_i hl
    cases q
    have qa : evA [.val fa, .val fb, .val fc] e = some ([.inl d1, .inl d2, .inl d3], e3) := by
      show (fa e).bind _ = _
      rw [q1, Option.bind_some]
      show ((fb e1).bind _).map _ = _
      rw [q2, Option.bind_some]
      show (((fc e2).bind _).map _).map _ = _
      rw [q3]
      rfl
    refine t2 _ ok qa fun Z' H' vs A' T s' o' ra nd off b => ?_
    obtain ⟨v, us, F1, B1, g1, g2, g3, g4⟩ := ra
    obtain ⟨w, us2, F2, B2, g5, g6, g7, g8⟩ := g4
    obtain ⟨u, us3, F3, B3, g9, g10, g11, g12⟩ := g8
    obtain ⟨g13, g14⟩ := g12
    subst g14
    subst g13
    rw [List.append_nil] at g10
    subst g10
    subst g9
    subst g6
    subst g5
    subst g1
    subst g2
    rw [List.append_assoc] at nd
    obtain ⟨A2, w1, w2, w3⟩ := o'.set1 (i := i) g3 nd (fun a ha => off a (List.mem_append_left _ ha)) hl.1
    rw [List.append_assoc] at w3
    obtain ⟨A3, w4, w5, w6⟩ := w1.set1 (i := j) g7 w3 (fun a ha => off a (List.mem_append_right _ (List.mem_append_left _ ha))) (by rw [List.length_set]; exact hl.2.1)
    obtain ⟨A4, w7, w8⟩ := w4.set (i := k) g11 w6 (fun a ha => off a (List.mem_append_right _ (List.mem_append_right _ ha))) (by rw [List.length_set, List.length_set]; exact hl.2.2)
    refine ⟨v, w, u, rfl, c _ Z' H' A4 s' w7 (fun a ha => ?_) (((Fix.set hwi).trans (.set hwj)).trans (.set hwk))⟩
    rcases List.mem_append.mp (w8 a ha) with y | y
    · exact b a (List.mem_append_left _ (List.mem_append_right _ (List.mem_append_right _ y)))
    · rcases List.mem_append.mp (w5 a y) with y | y
      · exact b a (List.mem_append_left _ (List.mem_append_right _ (List.mem_append_left _ y)))
      · rcases List.mem_append.mp (w2 a y) with y | y
        · exact b a (List.mem_append_left _ (List.mem_append_left _ y))
        · exact b a (List.mem_append_right _ y)
  · cases q
end VL
end

section
set_option Elab.async false
set_option linter.all false
set_option maxRecDepth 100000
namespace VL
open PySem PySem.Spec PyProof.Rows L2

/-! ### keywords: what is handed in is kept as data -/
structure VKs (X : Cx) (kws : List Keyword) (f : En → Option (List P × En)) : Prop where
  out : ∃ t, PK X kws t ∧ EvFs X.K t f
section
variable {X : Cx} {x : Expr} {kws : List Keyword} {ff : EF} {gg : En → Option (List P × En)} {nm : Option Str} {kpos : Pos}
theorem vks_nil : VKs X [] fNil := ⟨_, pk_nil, fun σ H Z e e' A ps Q o q k => by cases q; exact k Z H [] A (Ex.refl o.zh).stp o .refl rfl⟩
theorem vks_cons (h : VF X x ff) (hs : VKs X kws gg) : VKs X (⟨nm, x, kpos⟩ :: kws) (fCons ff gg) := by
  obtain ⟨t, h1, h2⟩ := h.out
  obtain ⟨u, h3, h4⟩ := hs.out
  refine ⟨_, pk_cons h1 h3, fun σ H Z e e' A ps Q o q k => ?_⟩
  unfold fCons at q
  obtain ⟨⟨p, e1⟩, q1, q2⟩ := Option.bind_eq_some_iff.mp q
  obtain ⟨⟨r, e2⟩, q3, q4⟩ := Option.map_eq_some_iff.mp q2
  cases q4
  refine h2 _ o q1 fun Z1 H1 v A1 s1 o1 b1 r1 => h4 _ o1 q3 fun Z2 H2 vs A2 s2 o2 b2 r2 => ?_
  exact k Z2 H2 _ A2 (s1.trans b1 s2) o2 (Sub.trans s1 b1 b2) ⟨v, vs, rfl, Rp.mono s2.z _ _ r1, r2⟩
end
/-- f(..), all that is handed in being data -/
theorem call_data {K : PySem.W.Frag} {fn : Fn} {σ : L2.St} {Z0 H0 Z1 H1 : Hp} {A0 A1 : List Addr} {e1 : En} {ps : List P} {vs : List V} {ds' : List D} {r : D} {Q : VK} {E : XK} (s1 : Stp A0 Z0 H0 Z1 H1) (o1 : Ok K Z1 H1 σ e1 A1) (b1 : Sub A0 H0 A1) (r1 : Rps K Z1 ps vs) (q : fn (ps.map .imm) = some (r, ds'))
    (k : ∀ Z' H' v A' F, Stp A0 Z0 H0 Z' H' → Ok K Z' H' σ e1 A' → RD K Z' H' r v F → (F ++ A').Nodup → (∀ a ∈ F, Z' a = none) → Sub A0 H0 (F ++ A') → Q v H') : spV K fn vs H1 Q E := by
  refine ⟨Z1, _, [], r, ds', o1.zh, RDs.imms r1, List.nodup_nil, fun _ h => (nomatch h), q, fun Z' H' v G' F st rd rr nd off sb => ?_⟩
  rw [List.nodup_append] at nd
  have re' : Re K Z' H' e1 σ A1 := Re.mono st.z e1 σ A1 (fun b hb ob hob => st.keep b ob hob (by simp)) o1.re
  have apart : ∀ b, b ∈ F ++ G' → b ∉ A1 := fun b hb hA => by
    rcases sb b hb with z | z
    · cases z
    · obtain ⟨w, hw⟩ := Re.there e1 σ A1 o1.re b hA
      rw [hw] at z; cases z
  have nilS : Sub A0 H0 [] := fun _ h => nomatch h
  refine k Z' H' v A1 F (s1.trans nilS st) ⟨st.zh, re', o1.nd, fun b hb => ?_⟩ rr ?_ (fun b hb => off b (List.mem_append_left _ hb)) fun b hb => ?_
  · cases z : Z' b with
    | none => rfl
    | some u =>
      rcases st.new b u z with w | w | w
      · rw [o1.off b hb] at w; cases w
      · cases w
      · exact absurd w (Re.noA e1 σ A1 o1.re b hb)
  · rw [List.nodup_append]
    exact ⟨nd.1, o1.nd, fun b hb x hx z => apart b (List.mem_append_left _ hb) (z ▸ hx)⟩
  · rcases List.mem_append.mp hb with z | z
    · exact Sub.trans s1 nilS sb b (List.mem_append_left _ z)
    · exact b1 b z
/-- how data go to the parameters -/
structure GP (K : PySem.W.Frag) (gP : List P → List P → List P) (gV : List V → List V → List V) : Prop where
  ok : ∀ {Z : Hp} {ps qs : List P} {vs zs : List V}, Rps K Z ps vs → Rps K Z qs zs → Rps K Z (gP ps qs) (gV vs zs)
def dKw (fn : Fn) (gP : List P → List P → List P) (f g : En → Option (List P × En)) : ED := fun e => (f e).bind fun q => (g q.2).bind fun r => (fn ((gP q.1 r.1).map .imm)).map fun z => (z.1, r.2)
theorem EvD.kw {K : PySem.W.Frag} {fn : Fn} {gP : List P → List P → List P} {gV : List V → List V → List V} {t tk : TA} {f g : En → Option (List P × En)} {E : XK} (hG : GP K gP gV) (h : EvFs K t f) (hk : EvFs K tk g) : EvD K (tCallK (spV K fn) gV E t tk) (dKw fn gP f g) := fun σ H Z e e' A d Q o q k => by
  unfold dKw at q
  obtain ⟨⟨ps, e1⟩, q1, q⟩ := Option.bind_eq_some_iff.mp q
  obtain ⟨⟨qs, e2⟩, q2, q⟩ := Option.bind_eq_some_iff.mp q
  obtain ⟨⟨r, ds'⟩, q3, q⟩ := Option.map_eq_some_iff.mp q
  cases q
  refine h _ o q1 fun Z1 H1 vs A1 s1 o1 b1 r1 => hk _ o1 q2 fun Z2 H2 zs A2 s2 o2 b2 r2 => ?_
  exact call_data (s1.trans b1 s2) o2 (Sub.trans s1 b1 b2) (hG.ok (Rps.mono s2.z _ _ r1) r2) q3 k
section
variable {X : Cx} {k : Nat} {f : Addr} {fd : FuncData} {ps ks : List Str} {fn : Fn} {nm m c : Str} {p pos apos : Pos} {x o : Expr} {xs : List Expr} {kws : List Keyword} {g : List Value → List Value → List Value} {gV : List V → List V → List V} {gP : List P → List P → List P} {fa fk : En → Option (List P × En)} {sp : Sp} {E : XK} {tk : TA} {ta : TE}
theorem pe_callK0 {CX : CXT} (F : FnOk X.prog X.w X.K X.mg X.base CX k f fd ps sp) (hr : Room k X.A) (hg : Gl X nm) (hm : X.mg nm = some (.ref f)) (hk : PySem.W.keepIn X.K (.ref f) = true) (hb : KBinds X.K fd ps ks g gV) (hx : Passes CX X E)
    (hkw : PK X kws tk) (hall : (backToKw pos (keywordEach kws X.env)).all (·.1.isSome) = true := by rfl) (hks : (backToKw pos (keywordEach kws X.env)).filterMap (·.1) = ks := by rfl)
    (hdb : (nm == ("__debug__" : Str)) = false := by decide) (hpl : ((backTo pos (starEach [] X.env)).any (·.1) || (backToKw pos (keywordEach kws X.env)).any (·.1.isNone)) = false := by rfl) :
    PE X (.Call (.Name nm p) [] kws pos) (tCallK sp gV E tNil tk) := by
  refine ⟨fun pins s σ H Q I h => ?_⟩
  refine wpAny_Call_Name_kw (ld_glob I hg hm ?_ hdb)
  refine PySem.W.callWith_KW0 (h₀ := X.base) I.ok.mod.kin hk hall (thn (hkw.run pos pins s σ H _ I h) fun ws s1 ⟨zs, H1, I1, rz, q⟩ => ⟨I1.kIn, ?_⟩) hpl
  rw [hks]
  exact run_fnk F hr hb hx I1 .nil rz q
/-- f(k = v, ..) -/
theorem vd_fnK0 (F : FnOk X.prog X.w X.K X.mg X.base CX0 k f fd ps (spV X.K fn)) (hr : Room k X.A) (hg : Gl X nm) (hm : X.mg nm = some (.ref f)) (hk : PySem.W.keepIn X.K (.ref f) = true) (hb : KBinds X.K fd ps ks g gV) (hG : GP X.K gP gV)
    (hkw : VKs X kws fk) (hall : (backToKw pos (keywordEach kws X.env)).all (·.1.isSome) = true := by rfl) (hks : (backToKw pos (keywordEach kws X.env)).filterMap (·.1) = ks := by rfl)
    (hdb : (nm == ("__debug__" : Str)) = false := by decide) (hpl : ((backTo pos (starEach [] X.env)).any (·.1) || (backToKw pos (keywordEach kws X.env)).any (·.1.isNone)) = false := by rfl) :
    VD X (.Call (.Name nm p) [] kws pos) (dKw fn gP fNil fk) := by
  obtain ⟨t, h1, h2⟩ := hkw.out
  have hn : EvFs X.K tNil fNil := fun σ H Z e e' A ps Q o q k => by cases q; exact k Z H [] A (Ex.refl o.zh).stp o .refl rfl
  exact ⟨_, pe_callK0 F hr hg hm hk hb pass0 h1 hall hks hdb hpl, EvD.kw hG hn h2⟩
/-- f(e, .., k = v, ..) -/
theorem vd_fnK (F : FnOk X.prog X.w X.K X.mg X.base CX0 k f fd ps (spV X.K fn)) (hr : Room k X.A) (hg : Gl X nm) (hm : X.mg nm = some (.ref f)) (hk : PySem.W.keepIn X.K (.ref f) = true) (hb : KBinds X.K fd ps ks g gV) (hG : GP X.K gP gV)
    (ha : VFs X (x :: xs) fa) (hkw : VKs X kws fk) (hall : (backToKw pos (keywordEach kws X.env)).all (·.1.isSome) = true := by rfl) (hks : (backToKw pos (keywordEach kws X.env)).filterMap (·.1) = ks := by rfl)
    (hdb : (nm == ("__debug__" : Str)) = false := by decide) (he : starEach (x :: xs) X.env = (false, eval x X.env) :: starEach xs X.env := by rfl)
    (hpl : ((backTo pos (starEach (x :: xs) X.env)).any (·.1) || (backToKw pos (keywordEach kws X.env)).any (·.1.isNone)) = false := by rfl) :
    VD X (.Call (.Name nm p) (x :: xs) kws pos) (dKw fn gP fa fk) := by
  obtain ⟨t, h1, h2⟩ := hkw.out
  obtain ⟨t', h3, h4⟩ := ha.out
  exact ⟨_, pe_callK F hr hg hm hk hb pass0 h3 h1 hall hks hdb he hpl, EvD.kw hG h4 h2⟩
end
end VL
end

section
set_option Elab.async false
set_option linter.all false
set_option maxRecDepth 100000
namespace VL
open PySem PySem.Spec PyProof.Rows L2

/-! ### isinstance(x, T), T a built-in class -/
def P.tyN : P → Option String
  | .non => some "NoneType"
  | .bl _ => some "bool"
  | .int _ => some "int"
  | .str _ => some "str"
  | .tup _ _ => some "tuple"
  | .lst _ => some "list"
  | .scr _ => some "list"
  | .dK _ _ => some "dict"
  | _ => none
theorem Rr.tyX {K : PySem.W.Frag} {Z H : Hp} {p : P} {v : V} {n : String} (s : Same Z H) (h : Rr K Z H p v) (e : p.tyN = some n) : TyX K H v (.type n) := by
  cases p with
  | non => cases e; cases h; exact .base .non
  | bl b => cases e; cases h; exact .base (.bl _)
  | int b => cases e; cases h; exact .base (.int _)
  | str b => cases e; cases h; exact .base (.str _)
  | tup b l =>
    cases e
    obtain ⟨a, vs, h1, h2, h3⟩ := h
    subst h1
    rcases Same.seqT s h2.1 with (q | ⟨o, q⟩) | ⟨o, its, n, q1, q2, _⟩
    · exact .base (.tup q)
    · exact .fTuple q
    · exact .kTuple q1 q2
  | lst l =>
    cases e
    obtain ⟨a, vs, h1, h2, h3⟩ := h
    subst h1
    exact .base (.lst h2)
  | scr l =>
    cases e
    obtain ⟨a, h1, h2⟩ := h
    subst h1
    rcases Same.seq s h2 with (q | ⟨o, q⟩) | ⟨o, its, n, q1, q2, _⟩
    · exact .base (.lst q)
    · exact .base (.frz q)
    · exact .kList q1 q2
  | dK ks l =>
    cases e
    obtain ⟨a, kvs, h1, h2, h3⟩ := h
    subst h1
    rcases h2 with q | ⟨o, q⟩
    · exact .base (.dK q)
    · exact .fDict q
  | _ => cases e
def isB (a T : String) : Bool := a == T || (a == "bool" && T == "int")
def tyNs : List String := ["NoneType", "bool", "int", "str", "tuple", "list", "dict"]
theorem isB_ok : ∀ a ∈ tyNs, ∀ T ∈ ["bool", "int", "str", "tuple", "list", "dict"], kitB a T = some (isB a T) := by decide +kernel
theorem tyN_in {p : P} {n : String} (e : p.tyN = some n) : n ∈ tyNs := by
  cases p <;> cases e <;> decide
def eIsi (T : String) (f : EQ) : EQ := fun e => (f e).bind fun p => p.tyN.map fun n => .bl (isB n T)
theorem vq_isi {X : Cx} {a : Expr} {f : EQ} {T : String} {nm : Str} {p p2 pos : Pos} (h : VR X a f) (hT : T ∈ ["bool", "int", "str", "tuple", "list", "dict"]) (hg : Gl X "isinstance") (hm : X.mg "isinstance" = none) (hg2 : Gl X nm) (hm2 : X.mg nm = none) (hv2 : bootBuiltins nm = some (.type T))
    (h1 : starEach [a, .Name nm p2] X.env = (false, eval a X.env) :: starEach [.Name nm p2] X.env := by rfl) (h2 : starEach [.Name nm p2] X.env = (false, eval (.Name nm p2) X.env) :: starEach [] X.env := by rfl) (hn2 : nm ≠ "__name__" := by decide) (hdb2 : (nm == ("__debug__" : Str)) = false := by decide)
    (hpl : (backTo pos (starEach [.Name nm p2] X.env)).any (·.1) = false := by rfl) :
    VQ X (.Call (.Name "isinstance" p) [a, .Name nm p2] [] pos) (eIsi T f) := by
  obtain ⟨t, t1, t2⟩ := h.out
  have hc : PE X (.Name nm p2) (tC (.ty T)) := pe_bltn hg2 hm2 hv2 rfl hn2 hdb2
  refine ⟨_, pe_callB (call_isi) hg hm vb_isinstance (pa_cons t1 (pa_cons hc pa_nil h2) h1) (by decide) (by decide) h1 hpl, fun σ H Z e A q Q o e1 k => ?_⟩
  unfold eIsi at e1
  obtain ⟨pp, q1, q2⟩ := Option.bind_eq_some_iff.mp e1
  obtain ⟨n, q3, q4⟩ := Option.map_eq_some_iff.mp q2
  subst q4
  refine t2 _ o q1 fun Z1 H1 v x1 r1 => ?_
  exact ⟨v, .ty T, .type n, .type T, isB n T, rfl, .ty T, Rr.tyX x1.zh r1 q3, kit_ty (isB_ok n (tyN_in q3) T hT), k Z1 H1 _ x1 rfl⟩
/-! ### sep.join(texts) -/
def P.strs : List P → Option (List Str)
  | [] => some []
  | .str b :: l => (P.strs l).map fun r => b :: r
  | _ => none
theorem Rps.strs {K : PySem.W.Frag} {Z : Hp} : ∀ {l : List P} {vs : List V} {bs : List Str}, Rps K Z l vs → P.strs l = some bs → vs = bs.map V.str
  | [], _, _, h, e => by cases e; exact h
  | p :: l, _, bs, ⟨v, r, h1, h2, h3⟩, e => by
    cases p with
    | str b =>
      obtain ⟨r', e1, e2⟩ := Option.map_eq_some_iff.mp (show (P.strs l).map _ = _ from e)
      rw [h1, ← e2, List.map_cons, Rps.strs h3 e1, show v = _ from h2]
    | _ => cases e
def pJoin : P → P → Option P
  | .str a, .lst l => (P.strs l).bind fun ys => if (ys.map (·.length)).sum + ys.length * a.length ≤ 16777216 then some (.str (Txt.join a ys)) else none
  | .str a, .tup _ l => (P.strs l).bind fun ys => if (ys.map (·.length)).sum + ys.length * a.length ≤ 16777216 then some (.str (Txt.join a ys)) else none
  | _, _ => none
def fJoin (a : Str) (fb : EF) : EF := fun e => (fb e).bind fun q => (pJoin (.str a) q.1).map fun z => (z, q.2)
theorem vf_join {X : Cx} {x : Expr} {ff : EF} {sep : Str} {j} {cp apos cpos : Pos} (h : VF X x ff) (h1 : starEach [x] X.env = (false, eval x X.env) :: starEach [] X.env := by rfl)
    (hbase : attributeBase (.Constant (.str sep) j cp) "join" X.env (eval (.Constant (.str sep) j cp) X.env) = eval (.Constant (.str sep) j cp) X.env := by rfl)
    (hfew : ((backTo cpos (starEach [x] X.env)).all (fun x => !x.1) && (backToKw cpos (keywordEach [] X.env)).all (fun x => x.1.isSome)
      && decide (([x] : List Expr).length + ([] : List Keyword).length + (if ([] : List Keyword).isEmpty then 0 else 1) < 30)) = true := by rfl)
    (hline : (apos.endLine == cpos.line) = true := by rfl) (hplain : (backTo cpos (starEach [] X.env)).any (·.1) = false := by rfl) :
    VF X (.Call (.Attribute (.Constant (.str sep) j cp) "join" apos) [x] [] cpos) (fJoin sep ff) := by
  obtain ⟨t, t1, t2⟩ := h.out
  refine ⟨_, pe_bm PySem.F.plainAttrs_str PySem.F.slot_str_join PySem.F.type_str_join mt_join pe_str (pa_cons t1 pa_nil h1) hbase hfew hline h1 hplain, fun σ H Z e e' A p Q o q k => ?_⟩
  unfold fJoin at q
  obtain ⟨⟨pp, e1⟩, q1, q2⟩ := Option.bind_eq_some_iff.mp q
  obtain ⟨z, q3, q4⟩ := Option.map_eq_some_iff.mp q2
  cases q4
  refine ⟨rfl, t2 _ o q1 fun Z1 H1 v A1 s1 o1 b1 r1 => ?_⟩
  cases pp with
  | lst l =>
    obtain ⟨ys, y1, y2⟩ := Option.bind_eq_some_iff.mp (show ((P.strs l).bind fun ys => if (ys.map (·.length)).sum + ys.length * sep.length ≤ 16777216 then some (P.str (Txt.join sep ys)) else none) = some p from q3)
    split at y2
    · rename_i hl
      cases y2
      obtain ⟨a, vs, e2, e3, e4⟩ := r1
      subst e2
      rw [e4.strs y1] at e3
      exact ⟨sep, a, ys, rfl, rfl, .inl (SqL.of (o1.zh _ _ e3)), hl, k Z1 H1 _ A1 s1 o1 b1 rfl⟩
    · cases y2
  | tup b l =>
    obtain ⟨ys, y1, y2⟩ := Option.bind_eq_some_iff.mp (show ((P.strs l).bind fun ys => if (ys.map (·.length)).sum + ys.length * sep.length ≤ 16777216 then some (P.str (Txt.join sep ys)) else none) = some p from q3)
    split at y2
    · rename_i hl
      cases y2
      obtain ⟨a, vs, e2, e3, e4⟩ := r1
      subst e2
      rw [e4.strs y1] at e3
      exact ⟨sep, a, ys, rfl, rfl, .inr (Same.seqT o1.zh e3.1), hl, k Z1 H1 _ A1 s1 o1 b1 rfl⟩
    · cases y2
  | _ => cases q3
end VL
end

section
set_option Elab.async false
set_option linter.all false
set_option maxRecDepth 100000
namespace VL
open PySem PySem.Spec PyProof.Rows L2
theorem Rps.getD {K : PySem.W.Frag} {Z : Hp} {ps : List P} {vs : List V} (h : Rps K Z ps vs) (i : Nat) : Rp K Z (ps.getD i .any) (vs.getD i .non) := by
  rw [List.getD_eq_getElem?_getD, List.getD_eq_getElem?_getD]
  cases q : ps[i]? with
  | none => exact trivial
  | some p =>
    obtain ⟨v, q1, q2⟩ := h.get q
    rw [q1]
    exact q2
/-- which goes where: from the left ones, the right ones, or data that always stand there -/
inductive Sl where
  | l (i : Nat) | r (i : Nat)
def slP (s : List Sl) (ps qs : List P) : List P := s.map fun
  | .l i => ps.getD i .any
  | .r i => qs.getD i .any
def slV (s : List Sl) (ps qs : List V) : List V := s.map fun
  | .l i => ps.getD i .non
  | .r i => qs.getD i .non
def slU (s : List Sl) (ps qs : List Value) : List Value := s.map fun
  | .l i => ps.getD i .none
  | .r i => qs.getD i .none
theorem gp_sl {K : PySem.W.Frag} : ∀ s : List Sl, GP K (slP s) (slV s)
  | [] => ⟨fun _ _ => rfl⟩
  | .l i :: s => ⟨fun h1 h2 => ⟨_, _, rfl, h1.getD i, (gp_sl s).ok h1 h2⟩⟩
  | .r i :: s => ⟨fun h1 h2 => ⟨_, _, rfl, h2.getD i, (gp_sl s).ok h1 h2⟩⟩
end VL
end

section
set_option Elab.async false
set_option linter.all false
set_option maxRecDepth 100000
namespace VL
open PySem PySem.Spec PyProof.Rows L2

/-! ### enumerate, zip of lists and tuples -/
inductive Sk where
  | l | t
def SqK (K : PySem.W.Frag) : Sk → Hp → Addr → List V → Prop
  | .l, H, a, xs => SqL K H a xs
  | .t, H, a, xs => SqT K H a xs
def IsSq : Sk → Heap → Addr → Array Value → Prop
  | .l, h, a, its => h.IsList a its
  | .t, h, a, its => h.IsTuple a its
def IsIt : Sk → Heap → Addr → Addr → Nat → Prop
  | .l, h, it, a, i => h.IsListIter it a i
  | .t, h, it, a, i => h.IsTupleIter it a i
def itO : Sk → Addr → Obj
  | .l, a => { cls := .type "list_iterator", data := .fields #[.ref a, .int 0 0] }
  | .t, a => { cls := .type "tuple_iterator", data := .fields #[.ref a, .int 0 0] }
theorem drawsK {prog : Program} {w : World} {A : Around} (k : Sk) (hh : A.handled = none) (it a : Addr) (hne : a ≠ it) (items : Array Value) :
    Draws prog w A it [it, a] items.size (fun i v => items[i]? = some v) (fun i h => IsIt k h it a i ∧ IsSq k h a items) := by
  cases k
  · exact .list hh it a hne items
  · exact .tuple hh it a hne items
theorem beginsK (k : Sk) (a : Addr) (items : Array Value) : Begins (.ref a) (itO k a) (fun h => IsSq k h a items) := by
  cases k
  · exact begins_list a items
  · exact begins_tuple a items
theorem IsIt.obj {k : Sk} {h : Heap} {it a : Addr} {i : Nat} (x : IsIt k h it a i) : ∃ o, h.get? it = some o ∧ ∀ v, o.data ≠ .cell v := by
  cases k <;> (obtain ⟨o, e, c, d⟩ := x; exact ⟨o, e, fun v z => by rw [d] at z; cases z⟩)
theorem IsIt.keep {k : Sk} {h h' : Heap} {it a : Addr} {i : Nat} (x : IsIt k h it a i) (q : ∀ o, h.get? it = some o → h'.get? it = some o) : IsIt k h' it a i := by
  cases k
  · exact Heap.IsListIter.at x q
  · exact Heap.IsTupleIter.at x q
theorem IsIt.new {k : Sk} {h : Heap} {it a : Addr} (e : h.get? it = some (itO k a)) : IsIt k h it a 0 := by
  cases k
  · exact ⟨_, e, rfl, rfl⟩
  · exact ⟨_, e, rfl, rfl⟩
theorem IsIt.ne {k k' : Sk} {h : Heap} {it a b : Addr} {i : Nat} {its : Array Value} (x : IsIt k h it a i) (y : IsSq k' h b its) : b ≠ it := fun e => by
  subst e
  cases k <;> cases k' <;> (obtain ⟨o, e1, c1, _⟩ := x; obtain ⟨o', e2, c2, _⟩ := y; rw [e1] at e2; cases e2; rw [c1] at c2; revert c2; decide)
theorem IsSq.lt {k : Sk} {h : Heap} {a : Addr} {its : Array Value} (y : IsSq k h a its) : a < h.objs.size := by
  cases k <;> (obtain ⟨o', e2, _⟩ := y; exact Heap.lt_size e2)
section
variable {X : Cx} {pins : List (Addr × Obj)} {σ : L2.St} {H : Hp} {s : Shared} {a : Addr} {xs ys : List V}
theorem invK (I : Inv X pins σ H s) {k : Sk} (h : SqK X.K k H a xs) : ∃ its : List Value, Vals xs its ∧ IsSq k s.heap a its.toArray := by
  cases k
  · obtain ⟨its, rv, p, _⟩ := I.list h
    exact ⟨its, rv, p.isList⟩
  · obtain ⟨its, rv, p, _⟩ := I.tuple h
    exact ⟨its, rv, p⟩
theorem injK (I : Inv X pins σ H s) {k : Sk} (h : SqK X.K k H a xs) (h' : SqK X.K k H a ys) : xs = ys := by
  cases k
  · exact I.list_inj h h'
  · exact I.tuple_inj h h'
end
/-- the thing at a as it stands at each turn, each item in a new pair -/
def IteK (K : PySem.W.Frag) (k : Sk) (k0 : Int) (a : Addr) : It :=
  ⟨fun i H => ∃ (xs : List V) (x : V), SqK K k H a xs ∧ xs[i]? = some x, fun i H v H' => ∃ T x, v = .ref T ∧ H T = none ∧ H' = upd H T (.tup [.int (k0 + (i : Nat)), x]) ∧ ∀ xs, SqK K k H a xs → xs[i]? = some x, fun i H => ∃ xs : List V, SqK K k H a xs ∧ xs.length = i⟩
theorem turn_enumK {P : Program} {w : World} {K : PySem.W.Frag} {elts : List Expr} {kk : Nat} {tpos : Pos} (k : Sk) (k0 : Int) (a e it : Addr) :
    Turn P w K (.Tuple elts kk tpos) (IteK K k k0 a) [e, it] e (fun i h => (∃ old, IsEnum h e it (k0 + (i : Nat)) old) ∧ IsIt k h it a i ∧ e ≠ it) where
  mem := by simp
  obj := fun i h st b hb => by
    obtain ⟨⟨old, he⟩, hi, _⟩ := st
    have e' : b = e ∨ b = it := by simpa using hb
    rcases e' with z | z
    · rw [z]; exact ⟨_, he, fun v q => nomatch q⟩
    · rw [z]; exact hi.obj
  keep := fun i h h' st q => let ⟨⟨old, he⟩, hi, hne⟩ := st; ⟨⟨old, q e (by simp) _ he⟩, hi.keep fun o z => q it (by simp) o z, hne⟩
  item := by
    intro X hP hw hK hc i pins s σ H E I hf st hg
    subst hP hw hK
    obtain ⟨⟨old, he⟩, hit, hne⟩ := st
    obtain ⟨xs, x, hq, hx⟩ := hg
    obtain ⟨its, rv, p⟩ := invK I hq
    obtain ⟨u, hu, ru⟩ := rv.get hx
    have hai : a ≠ it := hit.ne p
    have hae : a ≠ e := fun z => by
      subst z
      cases k <;> (obtain ⟨o', e2, c2, _⟩ := p; rw [he] at e2; cases e2; exact absurd c2 (by intro z; injection z with z; revert z; decide))
    have W := GoesN.enumFrom (elts := elts) (x1 := kk) (pos := tpos) k0 (drawsK (prog := X.prog) (w := X.w) (A := X.A.in1) k (I.ok.hd hc) it a hai its.toArray) e hne (by simp; exact ⟨hne, hae.symm⟩) (by simp)
    have hlt : i < its.toArray.size := by
      rw [List.size_toArray]
      exact (List.getElem?_eq_some_iff.mp hu).1
    refine W.goes i s _ E hlt ⟨⟨old, he⟩, hit, p⟩ fun v h' tk hY hst hk htk => ?_
    obtain ⟨T, t, x', rfl, hT, hx', hTup⟩ := hY
    have ex : x' = u := by
      have z : its[i]? = some x' := by simpa using hx'
      rw [hu] at z; cases z; rfl
    subst ex
    have new : ObjOk X.prog X.w (upd H T (.tup [.int (k0 + (i : Nat)), x])) h' T (.tup [.int (k0 + (i : Nat)), x]) :=
      ⟨by show 2 ≤ sizeLine; decide, [.int (k0 + (i : Int)) t, x'], .cons ⟨_, rfl⟩ (.cons ru .nil), hTup⟩
    have I1 : Inv X pins σ (upd H T (.tup [.int (k0 + (i : Nat)), x])) { s with heap := h', toks := tk } :=
      I.turnedNew (ch := [e, it]) hk hf hT new
    refine ⟨.ref T, _, I1, rfl, ⟨T, x, rfl, I.hok.fresh hT, rfl, fun ys hy => by rw [injK I hy hq]; exact hx⟩, ⟨hst.1, hst.2.1, hne⟩, fun b hb => ?_⟩
    have hb' : b < s.heap.objs.size := by
      have e' : b = e ∨ b = it := by simpa using hb
      rcases e' with z | z
      · rw [z]; exact Heap.lt_size he
      · rw [z]; obtain ⟨o, q, _⟩ := hit.obj; exact Heap.lt_size q
    rw [upd_ne (Nat.ne_of_lt (Nat.lt_of_lt_of_le hb' hT))]
    exact (hf b hb).1
  done := by
    intro X hP hw hK hc i pins s σ H E I hf st hg
    subst hP hw hK
    obtain ⟨⟨old, he⟩, hit, hne⟩ := st
    obtain ⟨xs, hq, hx⟩ := hg
    obtain ⟨its, rv, p⟩ := invK I hq
    have hl := rv.length
    have hai : a ≠ it := hit.ne p
    have hi : i = its.toArray.size := by rw [List.size_toArray, ← hl, hx]
    subst hi
    refine wpAny_pyNext_enum_endD (drawsK (prog := X.prog) (w := X.w) (A := X.A.in1) k (I.ok.hd hc) it a hai its.toArray) he ⟨hit, p⟩ fun h' eb => ⟨rfl, ?_⟩
    exact I.turnedL (t' := s.toks) (ch := [e, it]) (fun b o hb q => eb b o (fun z => hb (by simp [z])) q) hf
  self := fun A i s Q E st h => let ⟨⟨_, he⟩, _⟩ := st; wpAny_pyIter_enum he h

theorem typeCall_enumerate_1' (a : Value) : checkTypeCall "enumerate" ⟨[a], []⟩ = pure () := by kernel_rfl
theorem newCall_enumerate_1' (a : Value) : checkBuiltinCall "enumerate.__new__" ⟨[.type "enumerate", a], []⟩ = pure () := by kernel_rfl
set_option maxHeartbeats 1000000 in
theorem meets_enumerate_new1 {v : Value} {o : Obj} {H : Heap → Prop} (B : Begins v o H) :
    Meets (Builtin.«enumerate.__new__» ⟨[.type "enumerate", v], []⟩) (fun _ R s => H s.heap ∧
      R (.ok (.ret (.ref (s.heap.push o).objs.size))) { s with heap := (s.heap.push o).push { cls := .type "enumerate", data := .fields #[.none, .bool false, .ref s.heap.objs.size, rawInt 0, .none, .none] } }) :=
  .of_wp fun prog w A R s h => by
    obtain ⟨hp, g, d, tk, os⟩ := s; obtain ⟨h1, h⟩ := h
    have hsub := sub_enumerate
    have q1 : ∀ {A' : Around} {E : Value → Shared → Prop} {Q : Value → Shared → Prop}, Q (.ref hp.objs.size) ⟨hp.push o, g, d, tk, os⟩ → wpAny (model prog w) A' (pyIter v) Q E ⟨hp, g, d, tk, os⟩ :=
      fun q => B.iter prog w _ _ ⟨hp, g, d, tk, os⟩ _ h1 q
    wp_walk using q1
    refine wpAny_stack_any fun st => wpAny_pure ?_
    split
    · rename_i c _ _ _ _ _
      cases (c == Value.type "enumerate")
      · wp_walk using q1
        exact ⟨_, rfl, h⟩
      · wp_walk using q1
        exact ⟨_, rfl, h⟩
    · wp_walk using q1
      exact ⟨_, rfl, h⟩
theorem enum_begins1 {prog : Program} {w : World} {A : Around} {E : Value → Shared → Prop} {s : Shared} {v : Value} {o : Obj} {H : Heap → Prop} {Q : Value → Shared → Prop} (B : Begins v o H) (h1 : H s.heap)
    (h : ∀ h', IsEnum h' (s.heap.objs.size + 1) s.heap.objs.size 0 .none → h'.get? s.heap.objs.size = some o → h'.objs.size = s.heap.objs.size + 2 →
      (∀ b o, s.heap.get? b = some o → h'.get? b = some o) → Q (.ref (s.heap.objs.size + 1)) { s with heap := h' }) :
    wpAny (model prog w) A (call (.type "enumerate") [v]) Q E s := by
  refine callType_new F.called_enumerate (by decide) (typeCall_enumerate_1' _) (newCall_enumerate_1' _) (fun obj => F.args_object_init_2 obj _) F.entry_enumerate_new
    (meets_enumerate_new1 B) ⟨h1, ?_⟩
  have hz : (s.heap.push o).objs.size = s.heap.objs.size + 1 := Heap.size_push ..
  show _ ∧ _
  rw [hz]
  have he : IsEnum ((s.heap.push o).push { cls := .type "enumerate", data := .fields #[.none, .bool false, .ref s.heap.objs.size, rawInt 0, .none, .none] }) (s.heap.objs.size + 1) s.heap.objs.size 0 .none := by
    have := Heap.get?_push_size (s.heap.push o) (o := { cls := .type "enumerate", data := .fields #[.none, .bool false, .ref s.heap.objs.size, rawInt 0, .none, .none] }) rfl
    rw [hz] at this; exact this
  refine ⟨⟨_, he, rfl⟩, h _ he (Heap.get?_push_of_some _ (Heap.get?_push_size _ B.free)) (by rw [Heap.size_push, hz]) fun b o x => Heap.get?_push_of_some _ (Heap.get?_push_of_some _ x)⟩
def iEnumK (K : PySem.W.Frag) (ta : TA) : TI := fun σ H R => ta σ H fun vs H1 => ∃ k a xs, vs = [.ref a] ∧ SqK K k H1 a xs ∧ R (IteK K k 0 a) H1
theorem pi_enumK {X : Cx} {e : Expr} {ta : TA} {p pos tpos : Pos} {elts : List Expr} {kk : Nat} (hg : Gl X "enumerate") (hm : X.mg "enumerate" = none) (ha : PA X [e] ta) (hs : starEach [e] X.env = [(false, eval e X.env)] := by rfl) :
    PI X (.Tuple elts kk tpos) (.Call (.Name "enumerate" p) [e] [] pos) (iEnumK X.K ta) := by
  refine ⟨fun pins s σ H R I h => ?_⟩
  refine Call_ (ld_blt I hg hm boot_enumerate (PyProof.Rows.callWith_type1 (thn (ha.run pos pins s σ H _ I h) fun us s1 ⟨vs, H1, I1, r1, q1⟩ => ?_) hs rfl))
  obtain ⟨k, a, xs, ex, hq, q⟩ := q1
  subst ex
  cases r1 with
  | cons r rr =>
    cases rr
    cases r
    obtain ⟨its, rv, p'⟩ := invK I1 hq
    refine enum_begins1 (beginsK k a its.toArray) p' fun h' he hit hsz hk => wpAny_pyIter_enum he ?_
    have I2 : Inv X pins σ H1 { s1 with heap := h' } := I1.kept (t' := s1.toks) hk
    refine ⟨s1.heap.objs.size + 1, [s1.heap.objs.size + 1, s1.heap.objs.size], _, _, H1, rfl, I2, turn_enumK k 0 a (s1.heap.objs.size + 1) s1.heap.objs.size, ⟨⟨.none, he⟩, IsIt.new hit, Nat.succ_ne_self _⟩, fun b hb => ?_, q⟩
    have e' : b = s1.heap.objs.size + 1 ∨ b = s1.heap.objs.size := by simpa using hb
    have hle : s1.heap.objs.size ≤ b := by
      rcases e' with z | z
      · rw [z]; exact Nat.le_add_right _ _
      · rw [z]; exact Nat.le_refl _
    exact I1.fpOk hle (I1.hok.fresh hle)
/-- enumerate(v, k): a written start or any -/
def iEnumK2 (K : PySem.W.Frag) (ta : TA) : TI := fun σ H R => ta σ H fun vs H1 => ∃ (k : Sk) (a : Addr) (xs : List V) (k0 : Int), vs = [.ref a, .int k0] ∧ SqK K k H1 a xs ∧ (-(2 ^ 63) ≤ k0 ∧ k0 < 2 ^ 63) ∧ R (IteK K k k0 a) H1
theorem pi_enumK2 {X : Cx} {e e2 : Expr} {ta : TA} {p pos tpos : Pos} {elts : List Expr} {kk : Nat} (hg : Gl X "enumerate") (hm : X.mg "enumerate" = none) (ha : PA X [e, e2] ta)
    (hs : starEach [e, e2] X.env = (false, eval e X.env) :: starEach [e2] X.env := by rfl) (hpl : (backTo pos (starEach [e2] X.env)).any (·.1) = false := by rfl) :
    PI X (.Tuple elts kk tpos) (.Call (.Name "enumerate" p) [e, e2] [] pos) (iEnumK2 X.K ta) := by
  refine ⟨fun pins s σ H R I h => ?_⟩
  refine Call_ (ld_blt I hg hm boot_enumerate (PyProof.Rows.callWith_type1 (thn (ha.run pos pins s σ H _ I h) fun us s1 ⟨vs, H1, I1, r1, q1⟩ => ?_) hs hpl))
  obtain ⟨k, a, xs, k0, ex, hq, hk0, q⟩ := q1
  subst ex
  cases r1 with
  | cons r rr =>
    cases rr with
    | cons r' rr =>
      cases rr
      cases r
      obtain ⟨t, rfl⟩ := r'
      obtain ⟨its, rv, p'⟩ := invK I1 hq
      refine enum_begins (beginsK k a its.toArray) p' hk0.1 hk0.2 fun h' he hit hsz hk => wpAny_pyIter_enum he ?_
      have I2 : Inv X pins σ H1 { s1 with heap := h' } := I1.kept (t' := s1.toks) hk
      refine ⟨s1.heap.objs.size + 1, [s1.heap.objs.size + 1, s1.heap.objs.size], _, _, H1, rfl, I2, turn_enumK k k0 a (s1.heap.objs.size + 1) s1.heap.objs.size, ⟨⟨.none, by rw [show k0 + ((0 : Nat) : Int) = k0 by omega]; exact he⟩, IsIt.new hit, Nat.succ_ne_self _⟩, fun b hb => ?_, q⟩
      have e' : b = s1.heap.objs.size + 1 ∨ b = s1.heap.objs.size := by simpa using hb
      have hle : s1.heap.objs.size ≤ b := by
        rcases e' with z | z
        · rw [z]; exact Nat.le_add_right _ _
        · rw [z]; exact Nat.le_refl _
      exact I1.fpOk hle (I1.hok.fresh hle)
/-! ### the readings -/
def enP : Int → List P → List P
  | _, [] => []
  | k, p :: l => .tup true [.int k, p] :: enP (k + 1) l
theorem enP_len : ∀ (l : List P) (k : Int), (enP k l).length = l.length
  | [], _ => rfl
  | p :: l, k => by show (enP (k + 1) l).length + 1 = _; rw [enP_len l]; rfl
theorem enP_get : ∀ (l : List P) (k : Int) (i : Nat) (q : P), (enP k l)[i]? = some q → ∃ p, l[i]? = some p ∧ q = .tup true [.int (k + (i : Nat)), p]
  | [], _, _, _, h => by simp [enP] at h
  | p :: l, k, 0, q, h => by
    simp [enP] at h
    exact ⟨p, rfl, by rw [← h]; simp⟩
  | p :: l, k, i + 1, q, h => by
    have h' : (enP (k + 1) l)[i]? = some q := by simpa [enP] using h
    obtain ⟨p', q1, q2⟩ := enP_get l (k + 1) i q h'
    exact ⟨p', by simpa using q1, by rw [q2]; congr 3; omega⟩
/-- what is walked: a list or a tuple of data -/
def SqP (K : PySem.W.Frag) (Z : Hp) (k : Sk) (a : Addr) (l : List P) : Prop := ∃ vs, Rps K Z l vs ∧ match k with
  | .l => Z a = some (.lst vs)
  | .t => SqT K Z a vs
theorem SqP.at {K : PySem.W.Frag} {Z H : Hp} {k : Sk} {a : Addr} {l : List P} (h : SqP K Z k a l) (s : Same Z H) : ∃ vs, Rps K Z l vs ∧ SqK K k H a vs := by
  obtain ⟨vs, h1, h2⟩ := h
  refine ⟨vs, h1, ?_⟩
  cases k
  · exact SqL.of (s _ _ h2)
  · exact Same.seqT s h2
theorem SqP.mono {K : PySem.W.Frag} {Z Z' : Hp} {k : Sk} {a : Addr} {l : List P} (h : SqP K Z k a l) (s : Same Z Z') : SqP K Z' k a l := by
  obtain ⟨vs, h1, h2⟩ := h
  refine ⟨vs, Rps.mono s _ _ h1, ?_⟩
  cases k
  · exact s _ _ h2
  · exact Same.seqT s h2
theorem Rp.sq {K : PySem.W.Frag} {Z : Hp} {p : P} {v : V} {l : List P} (h : Rp K Z p v) (e : p.items = some l) : ∃ k a, v = .ref a ∧ SqP K Z k a l := by
  cases p with
  | lst l' =>
    cases e
    obtain ⟨a, vs, h1, h2, h3⟩ := h
    exact ⟨.l, a, h1, vs, h3, h2⟩
  | tup b l' =>
    cases e
    obtain ⟨a, vs, h1, h2, h3⟩ := h
    exact ⟨.t, a, h1, vs, h3, h2.1⟩
  | _ => cases e
theorem en_ok {K : PySem.W.Frag} {Z : Hp} {k : Sk} {a : Addr} {l : List P} {k0 : Int} (h : SqP K Z k a l) : ItOk K Z (IteK K k k0 a) (enP k0 l) := fun Z1 H i s1 s2 => by
  obtain ⟨vs, h1, h2⟩ := h.at (s1.trans s2)
  refine ⟨fun q hq => ?_, fun hl => ⟨vs, h2, by rw [← h1.length, ← hl, enP_len]⟩⟩
  obtain ⟨p, q1, q2⟩ := enP_get l k0 i q hq
  obtain ⟨v, q3, q4⟩ := h1.get q1
  refine ⟨⟨vs, v, h2, q3⟩, ?_⟩
  rintro x H' ⟨T, y, rfl, hT, rfl, hy⟩
  have ey : y = v := by
    have z := hy vs h2
    rw [q3] at z; cases z; rfl
  subst ey
  refine ⟨_, Ex.lay s2 hT, ?_⟩
  rw [q2]
  exact ⟨T, _, rfl, TpOk.of upd_same, _, _, rfl, rfl, _, _, rfl, Rp.mono (s1.trans (Ex.lay s2 hT).z) _ _ q4, rfl⟩
def iEn (g : En → Option (List P × En)) : EI := fun e => (g e).bind fun q => match q.1 with
  | [p] => p.items.map fun l => (enP 0 l, q.2)
  | _ => none
def iEn2 (g : En → Option (List P × En)) : EI := fun e => (g e).bind fun q => match q.1 with
  | [p, .int k] => if -(2 ^ 63) ≤ k ∧ k < 2 ^ 63 then p.items.map fun l => (enP k l, q.2) else none
  | _ => none
section
variable {X : Cx} {a b : Expr} {gg : En → Option (List P × En)} {p pos tpos : Pos} {elts : List Expr} {kk : Nat}
theorem vi_enum (hg : Gl X "enumerate") (hm : X.mg "enumerate" = none) (h : VFs X [a] gg) (hs : starEach [a] X.env = [(false, eval a X.env)] := by rfl) :
    VI X (.Tuple elts kk tpos) (.Call (.Name "enumerate" p) [a] [] pos) (iEn gg) := by
  obtain ⟨t, h1, h2⟩ := h.out
  refine ⟨_, pi_enumK hg hm h1 hs, fun σ H Z e e' A l R o q k => ?_⟩
  unfold iEn at q
  obtain ⟨⟨ps, e1⟩, q1, q2⟩ := Option.bind_eq_some_iff.mp q
  dsimp only at q2
  split at q2
  · obtain ⟨l', q3, q4⟩ := Option.map_eq_some_iff.mp q2
    cases q4
    refine h2 _ o q1 fun Z' H' vs A' s' o' b' r => ?_
    obtain ⟨v, r0, r1, r2, r3⟩ := r
    rw [show r0 = [] from r3] at r1
    obtain ⟨kd, ad, rfl, sq⟩ := r2.sq q3
    obtain ⟨us, u1, u2⟩ := sq.at o'.zh
    exact ⟨kd, ad, us, r1, u2, k Z' H' A' _ s' o' b' (en_ok sq)⟩
  · cases q2
theorem vi_enum2 (hg : Gl X "enumerate") (hm : X.mg "enumerate" = none) (h : VFs X [a, b] gg) (hs : starEach [a, b] X.env = (false, eval a X.env) :: starEach [b] X.env := by rfl) (hpl : (backTo pos (starEach [b] X.env)).any (·.1) = false := by rfl) :
    VI X (.Tuple elts kk tpos) (.Call (.Name "enumerate" p) [a, b] [] pos) (iEn2 gg) := by
  obtain ⟨t, h1, h2⟩ := h.out
  refine ⟨_, pi_enumK2 hg hm h1 hs hpl, fun σ H Z e e' A l R o q k => ?_⟩
  unfold iEn2 at q
  obtain ⟨⟨ps, e1⟩, q1, q2⟩ := Option.bind_eq_some_iff.mp q
  dsimp only at q2
  split at q2
  · split at q2
    · rename_i hk
      obtain ⟨l', q3, q4⟩ := Option.map_eq_some_iff.mp q2
      cases q4
      refine h2 _ o q1 fun Z' H' vs A' s' o' b' r => ?_
      obtain ⟨v, r0, r1, r2, v2, r00, r3, r4, r5⟩ := r
      rw [show r00 = [] from r5] at r3
      cases r4
      obtain ⟨kd, ad, rfl, sq⟩ := r2.sq q3
      obtain ⟨us, u1, u2⟩ := sq.at o'.zh
      exact ⟨kd, ad, us, _, by rw [r1, r3], u2, hk, k Z' H' A' _ s' o' b' (en_ok sq)⟩
    · cases q2
  · cases q2
end
/-! ### zip -/
def ItzK (K : PySem.W.Frag) (k1 k2 : Sk) (a b : Addr) : It :=
  ⟨fun i H => ∃ (xs ys : List V) (x y : V), SqK K k1 H a xs ∧ SqK K k2 H b ys ∧ xs[i]? = some x ∧ ys[i]? = some y,
    fun i H v H' => ∃ T x y, v = .ref T ∧ H T = none ∧ H' = upd H T (.tup [x, y]) ∧ (∀ xs, SqK K k1 H a xs → xs[i]? = some x) ∧ ∀ ys, SqK K k2 H b ys → ys[i]? = some y,
    fun i H => ∃ xs ys : List V, SqK K k1 H a xs ∧ SqK K k2 H b ys ∧ min xs.length ys.length = i⟩
/-- the cells of a zip lie apart -/
structure ZApart (z TI TO i1 i2 : Addr) : Prop where
  h1 : TI ≠ z
  h2 : TO ≠ z
  h3 : TI ≠ TO
  h4 : TI ≠ i1
  h5 : TI ≠ i2
  h6 : z ≠ i1
  h7 : z ≠ i2
  h8 : TO ≠ i1
  h9 : TO ≠ i2
  h10 : i1 ≠ i2
theorem IsSq.kept {k : Sk} {h h' : Heap} {a : Addr} {its : Array Value} (y : IsSq k h a its) (q : ∀ o, h.get? a = some o → h'.get? a = some o) : IsSq k h' a its := by
  cases k
  · exact Heap.IsList.at y q
  · exact Heap.IsTuple.at y q
theorem sq_ne {X : Cx} {pins : List (Addr × Obj)} {σ : L2.St} {H : Hp} {s : Shared} {a b : Addr} {xs : List V} (I : Inv X pins σ H s) {k : Sk} (h : SqK X.K k H a xs) (f : FpOk X pins H b) : a ≠ b := fun e => by
  subst e
  have inK : ∀ o, X.K.lookup a = some o → False := fun o hk => by
    have hb := I.ok.mod.kin a o hk
    rcases f.2.2.2.1 with z | z
    · exact I.ok.noex a o hb z
    · have h1 := Heap.lt_size hb
      exact absurd (Nat.lt_of_lt_of_le h1 (Nat.le_trans I.ok.bsz z)) (Nat.lt_irrefl _)
  cases k
  · rcases h with (h | ⟨o, h⟩) | ⟨o, its, n, hk, _⟩
    · rw [f.1] at h; cases h
    · rw [f.1] at h; cases h
    · exact inK o hk
  · rcases h with (h | ⟨o, h⟩) | ⟨o, its, n, hk, _⟩
    · rw [f.1] at h; cases h
    · rw [f.1] at h; cases h
    · exact inK o hk
theorem turn_zipK {P : Program} {w : World} {K : PySem.W.Frag} {elts : List Expr} {kk : Nat} {tpos : Pos} {k1 k2 : Sk} {a b z TI TO i1 i2 : Addr} (D : ZApart z TI TO i1 i2) :
    Turn P w K (.Tuple elts kk tpos) (ItzK K k1 k2 a b) [z, TI, TO, i1, i2] z (fun i h => IsZip h z TI TO .none ∧ IsTupOf2 h TI (.ref i1) (.ref i2) ∧ (∃ x y, IsTupOf2 h TO x y) ∧ IsIt k1 h i1 a i ∧ IsIt k2 h i2 b i) where
  mem := by simp
  obj := fun i h st c hc => by
    obtain ⟨hz, hTI, ⟨x, y, hTO⟩, h1, h2⟩ := st
    have e' : c = z ∨ c = TI ∨ c = TO ∨ c = i1 ∨ c = i2 := by simpa using hc
    rcases e' with q | q | q | q | q
    · rw [q]; exact ⟨_, hz, fun v q => nomatch q⟩
    · rw [q]; exact ⟨_, hTI, fun v q => nomatch q⟩
    · rw [q]; exact ⟨_, hTO, fun v q => nomatch q⟩
    · rw [q]; exact h1.obj
    · rw [q]; exact h2.obj
  keep := fun i h h' st k => by
    obtain ⟨hz, hTI, ⟨x, y, hTO⟩, h1, h2⟩ := st
    exact ⟨k z (by simp) _ hz, k TI (by simp) _ hTI, ⟨x, y, k TO (by simp) _ hTO⟩, h1.keep fun o q => k i1 (by simp) o q, h2.keep fun o q => k i2 (by simp) o q⟩
  item := by
    intro X hP hw hK hc i pins s σ H E I hf st hg
    subst hP hw hK
    obtain ⟨hz, hTI, hTO, h1, h2⟩ := st
    obtain ⟨xs, ys, x, y, hqx, hqy, hx, hy⟩ := hg
    obtain ⟨its, rv, p⟩ := invK I hqx
    obtain ⟨its2, rv2, p2⟩ := invK I hqy
    obtain ⟨u, hu, ru⟩ := rv.get hx
    obtain ⟨u2, hu2, ru2⟩ := rv2.get hy
    have na : ∀ c ∈ [z, TI, TO, i1, i2], a ≠ c := fun c hc => sq_ne I hqx (hf c hc)
    have nb : ∀ c ∈ [z, TI, TO, i1, i2], b ≠ c := fun c hc => sq_ne I hqy (hf c hc)
    have S : ZipSep2 z TI TO i1 i2 [i1, a] [i2, b] :=
      { TIz := D.h1, TOz := D.h2, TITO := D.h3, TIi1 := D.h4, mem1 := by simp, zf1 := by simp; exact ⟨D.h6, (na z (by simp)).symm⟩, Tf1 := by simp; exact ⟨D.h8, (na TO (by simp)).symm⟩,
        TIi2 := D.h5, mem2 := by simp, zf2 := by simp; exact ⟨D.h7, (nb z (by simp)).symm⟩, Tf2 := by simp; exact ⟨D.h9, (nb TO (by simp)).symm⟩,
        sep1_2 := by simp; exact ⟨D.h10, (nb i1 (by simp)).symm⟩, sep2_1 := by simp; exact ⟨D.h10.symm, (na i2 (by simp)).symm⟩ }
    have W := GoesN.zip2 (elts := elts) (x1 := kk) (pos := tpos) S (drawsK (prog := X.prog) (w := X.w) (A := X.A.in1) k1 (I.ok.hd hc) i1 a (na i1 (by simp)) its.toArray) (drawsK (prog := X.prog) (w := X.w) (A := X.A.in1) k2 (I.ok.hd hc) i2 b (nb i2 (by simp)) its2.toArray)
    have hlt : i < min its.toArray.size its2.toArray.size := by
      rw [List.size_toArray, List.size_toArray]
      have := (List.getElem?_eq_some_iff.mp hu).1
      have := (List.getElem?_eq_some_iff.mp hu2).1
      omega
    refine W.goes i s _ E hlt ⟨hz, hTI, hTO, ⟨h1, p⟩, ⟨h2, p2⟩⟩ fun v h' tk hY hst hk htk => ?_
    obtain ⟨T, x', y', rfl, hT, hx', hy', hTup⟩ := hY
    have ex : x' = u := by
      have z : its[i]? = some x' := by simpa using hx'
      rw [hu] at z; cases z; rfl
    have ey : y' = u2 := by
      have z : its2[i]? = some y' := by simpa using hy'
      rw [hu2] at z; cases z; rfl
    subst ex
    subst ey
    have new : ObjOk X.prog X.w (upd H T (.tup [x, y])) h' T (.tup [x, y]) := ⟨by show 2 ≤ sizeLine; decide, [x', y'], .cons ru (.cons ru2 .nil), hTup⟩
    have I1 : Inv X pins σ (upd H T (.tup [x, y])) { s with heap := h', toks := tk } :=
      I.turnedNew (ch := [z, TI, TO, i1, i2]) (fun c o hc q => hk c o (fun z => hc (by simp at z ⊢; rcases z with z | z | z | z <;> simp [z])) q) hf hT new
    refine ⟨.ref T, _, I1, rfl, ⟨T, x, y, rfl, I.hok.fresh hT, rfl, fun zs hz => by rw [injK I hz hqx]; exact hx, fun zs hz => by rw [injK I hz hqy]; exact hy⟩, ⟨hst.1, hst.2.1, hst.2.2.1, hst.2.2.2.1.1, hst.2.2.2.2.1⟩, fun c hc => ?_⟩
    have hb' : c < s.heap.objs.size := by
      have e' : c = z ∨ c = TI ∨ c = TO ∨ c = i1 ∨ c = i2 := by simpa using hc
      rcases e' with q | q | q | q | q
      · rw [q]; exact Heap.lt_size hz
      · rw [q]; exact Heap.lt_size hTI
      · rw [q]; obtain ⟨_, _, q⟩ := hTO; exact Heap.lt_size q
      · rw [q]; obtain ⟨o, q, _⟩ := h1.obj; exact Heap.lt_size q
      · rw [q]; obtain ⟨o, q, _⟩ := h2.obj; exact Heap.lt_size q
    rw [upd_ne (Nat.ne_of_lt (Nat.lt_of_lt_of_le hb' hT))]
    exact (hf c hc).1
  done := by
    intro X hP hw hK hc i pins s σ H E I hf st hg
    subst hP hw hK
    obtain ⟨hz, hTI, hTO, h1, h2⟩ := st
    obtain ⟨xs, ys, hqx, hqy, hx⟩ := hg
    obtain ⟨its, rv, p⟩ := invK I hqx
    obtain ⟨its2, rv2, p2⟩ := invK I hqy
    have na : ∀ c ∈ [z, TI, TO, i1, i2], a ≠ c := fun c hc => sq_ne I hqx (hf c hc)
    have nb : ∀ c ∈ [z, TI, TO, i1, i2], b ≠ c := fun c hc => sq_ne I hqy (hf c hc)
    have S : ZipSep2 z TI TO i1 i2 [i1, a] [i2, b] :=
      { TIz := D.h1, TOz := D.h2, TITO := D.h3, TIi1 := D.h4, mem1 := by simp, zf1 := by simp; exact ⟨D.h6, (na z (by simp)).symm⟩, Tf1 := by simp; exact ⟨D.h8, (na TO (by simp)).symm⟩,
        TIi2 := D.h5, mem2 := by simp, zf2 := by simp; exact ⟨D.h7, (nb z (by simp)).symm⟩, Tf2 := by simp; exact ⟨D.h9, (nb TO (by simp)).symm⟩,
        sep1_2 := by simp; exact ⟨D.h10, (nb i1 (by simp)).symm⟩, sep2_1 := by simp; exact ⟨D.h10.symm, (na i2 (by simp)).symm⟩ }
    have W := GoesN.zip2 (elts := elts) (x1 := kk) (pos := tpos) S (drawsK (prog := X.prog) (w := X.w) (A := X.A.in1) k1 (I.ok.hd hc) i1 a (na i1 (by simp)) its.toArray) (drawsK (prog := X.prog) (w := X.w) (A := X.A.in1) k2 (I.ok.hd hc) i2 b (nb i2 (by simp)) its2.toArray)
    have e1 := rv.length
    have e2 := rv2.length
    have hi : i = min its.toArray.size its2.toArray.size := by rw [List.size_toArray, List.size_toArray, ← e1, ← e2, hx]
    subst hi
    refine W.stops s _ E ⟨hz, hTI, hTO, ⟨h1, p⟩, ⟨h2, p2⟩⟩ fun h' tk hk htk => ?_
    exact I.turnedL (ch := [z, TI, TO, i1, i2]) (fun c o hc q => hk c o (fun z => hc (by simp at z ⊢; rcases z with z | z | z | z <;> simp [z])) q) hf
  self := fun A i s Q E st h => wpAny_pyIter_zip st.1 h
theorem zapart (N : Nat) : ZApart (N + 4) (N + 2) (N + 3) N (N + 1) :=
  ⟨show (N + 2 : Nat) ≠ N + 4 by omega, show (N + 3 : Nat) ≠ N + 4 by omega, show (N + 2 : Nat) ≠ N + 3 by omega, show (N + 2 : Nat) ≠ N by omega, show (N + 2 : Nat) ≠ N + 1 by omega, show (N + 4 : Nat) ≠ N by omega, show (N + 4 : Nat) ≠ N + 1 by omega, show (N + 3 : Nat) ≠ N by omega, show (N + 3 : Nat) ≠ N + 1 by omega, show (N : Nat) ≠ N + 1 by omega⟩
def iZipK (K : PySem.W.Frag) (ta : TA) : TI := fun σ H R => ta σ H fun vs H1 => ∃ (k1 k2 : Sk) (a b : Addr) (xs ys : List V), vs = [.ref a, .ref b] ∧ SqK K k1 H1 a xs ∧ SqK K k2 H1 b ys ∧ R (ItzK K k1 k2 a b) H1
theorem pi_zipK {X : Cx} {e e2 : Expr} {ta : TA} {p pos tpos : Pos} {elts : List Expr} {kk : Nat} (hg : Gl X "zip") (hm : X.mg "zip" = none) (ha : PA X [e, e2] ta)
    (hs : starEach [e, e2] X.env = (false, eval e X.env) :: starEach [e2] X.env := by rfl) (hpl : (backTo pos (starEach [e2] X.env)).any (·.1) = false := by rfl) :
    PI X (.Tuple elts kk tpos) (.Call (.Name "zip" p) [e, e2] [] pos) (iZipK X.K ta) := by
  refine ⟨fun pins s σ H R I h => ?_⟩
  refine Call_ (ld_blt I hg hm PyProof.Rows.boot_zip (PyProof.Rows.callWith_type1 (thn (ha.run pos pins s σ H _ I h) fun us s1 ⟨vs, H1, I1, r1, q1⟩ => ?_) hs hpl))
  obtain ⟨k1, k2, a, b, xs, ys, ex, hqx, hqy, q⟩ := q1
  subst ex
  cases r1 with
  | cons r rr =>
    cases rr with
    | cons r' rr =>
      cases rr
      cases r
      cases r'
      obtain ⟨its, rv, p1⟩ := invK I1 hqx
      obtain ⟨its2, rv2, p2⟩ := invK I1 hqy
      refine zip_begins2 (beginsK k1 a its.toArray) (beginsK k2 b its2.toArray) p1 p2 fun h' hz hTI hTO h1 h2 hsz hk => wpAny_pyIter_zip hz ?_
      have I2 : Inv X pins σ H1 { s1 with heap := h' } := I1.kept (t' := s1.toks) hk
      refine ⟨s1.heap.objs.size + 4, [s1.heap.objs.size + 4, s1.heap.objs.size + 2, s1.heap.objs.size + 3, s1.heap.objs.size, s1.heap.objs.size + 1], _, _, H1, rfl, I2, turn_zipK (zapart s1.heap.objs.size), ⟨hz, hTI, ⟨_, _, hTO⟩, IsIt.new h1, IsIt.new h2⟩, fun c hcm => ?_, q⟩
      have e' : c = s1.heap.objs.size + 4 ∨ c = s1.heap.objs.size + 2 ∨ c = s1.heap.objs.size + 3 ∨ c = s1.heap.objs.size ∨ c = s1.heap.objs.size + 1 := by simpa using hcm
      have hle : s1.heap.objs.size ≤ c := by
        rcases e' with z | z | z | z | z <;> rw [z] <;> first | exact Nat.le_add_right _ _ | exact Nat.le_refl _
      exact I1.fpOk hle (I1.hok.fresh hle)
def zpP : List P → List P → List P
  | p :: l, q :: m => .tup true [p, q] :: zpP l m
  | _, _ => []
theorem zpP_len : ∀ (l m : List P), (zpP l m).length = min l.length m.length
  | [], _ => by simp [zpP]
  | _ :: _, [] => by simp [zpP]
  | p :: l, q :: m => by simp [zpP, zpP_len l m]
theorem zpP_get : ∀ (l m : List P) (i : Nat) (r : P), (zpP l m)[i]? = some r → ∃ p q, l[i]? = some p ∧ m[i]? = some q ∧ r = .tup true [p, q]
  | [], _, _, _, h => by simp [zpP] at h
  | _ :: _, [], _, _, h => by simp [zpP] at h
  | p :: l, q :: m, 0, r, h => by
    simp [zpP] at h
    exact ⟨p, q, rfl, rfl, h.symm⟩
  | p :: l, q :: m, i + 1, r, h => by
    obtain ⟨p', q', h1, h2, h3⟩ := zpP_get l m i r (by simpa [zpP] using h)
    exact ⟨p', q', by simpa using h1, by simpa using h2, h3⟩
theorem zp_ok {K : PySem.W.Frag} {Z : Hp} {k1 k2 : Sk} {a b : Addr} {l m : List P} (h : SqP K Z k1 a l) (h' : SqP K Z k2 b m) : ItOk K Z (ItzK K k1 k2 a b) (zpP l m) := fun Z1 H i s1 s2 => by
  obtain ⟨vs, h1, h2⟩ := h.at (s1.trans s2)
  obtain ⟨us, h3, h4⟩ := h'.at (s1.trans s2)
  refine ⟨fun q hq => ?_, fun hl => ⟨vs, us, h2, h4, by rw [← h1.length, ← h3.length, ← hl, zpP_len]⟩⟩
  obtain ⟨p, p', q1, q2, q3⟩ := zpP_get l m i q hq
  obtain ⟨v, q4, q5⟩ := h1.get q1
  obtain ⟨v', q6, q7⟩ := h3.get q2
  refine ⟨⟨vs, us, v, v', h2, h4, q4, q6⟩, ?_⟩
  rintro x H' ⟨T, y, y', rfl, hT, rfl, hy, hy'⟩
  have ey : y = v := by
    have z := hy vs h2
    rw [q4] at z; cases z; rfl
  have ey' : y' = v' := by
    have z := hy' us h4
    rw [q6] at z; cases z; rfl
  subst ey
  subst ey'
  refine ⟨_, Ex.lay s2 hT, ?_⟩
  rw [q3]
  exact ⟨T, _, rfl, TpOk.of upd_same, _, _, rfl, Rp.mono (s1.trans (Ex.lay s2 hT).z) _ _ q5, _, _, rfl, Rp.mono (s1.trans (Ex.lay s2 hT).z) _ _ q7, rfl⟩
def iZp (g : En → Option (List P × En)) : EI := fun e => (g e).bind fun q => match q.1 with
  | [p, p'] => p.items.bind fun l => p'.items.map fun m => (zpP l m, q.2)
  | _ => none
theorem vi_zip {X : Cx} {a b : Expr} {gg : En → Option (List P × En)} {p pos tpos : Pos} {elts : List Expr} {kk : Nat} (hg : Gl X "zip") (hm : X.mg "zip" = none) (h : VFs X [a, b] gg) (hs : starEach [a, b] X.env = (false, eval a X.env) :: starEach [b] X.env := by rfl) (hpl : (backTo pos (starEach [b] X.env)).any (·.1) = false := by rfl) :
    VI X (.Tuple elts kk tpos) (.Call (.Name "zip" p) [a, b] [] pos) (iZp gg) := by
  obtain ⟨t, h1, h2⟩ := h.out
  refine ⟨_, pi_zipK hg hm h1 hs hpl, fun σ H Z e e' A l R o q k => ?_⟩
  unfold iZp at q
  obtain ⟨⟨ps, e1⟩, q1, q2⟩ := Option.bind_eq_some_iff.mp q
  dsimp only at q2
  split at q2
  · obtain ⟨l', q3, q2⟩ := Option.bind_eq_some_iff.mp q2
    obtain ⟨m', q4, q5⟩ := Option.map_eq_some_iff.mp q2
    cases q5
    refine h2 _ o q1 fun Z' H' vs A' s' o' b' r => ?_
    obtain ⟨v, r0, r1, r2, v2, r00, r3, r4, r5⟩ := r
    rw [show r00 = [] from r5] at r3
    obtain ⟨kd, ad, rfl, sq⟩ := r2.sq q3
    obtain ⟨kd', ad', rfl, sq'⟩ := r4.sq q4
    obtain ⟨us, u1, u2⟩ := sq.at o'.zh
    obtain ⟨ws, w1, w2⟩ := sq'.at o'.zh
    exact ⟨kd, kd', ad, ad', us, ws, by rw [r1, r3], u2, w2, k Z' H' A' _ s' o' b' (zp_ok sq sq')⟩
  · cases q2
end VL
end

section
set_option Elab.async false
set_option linter.all false
set_option maxRecDepth 100000
namespace VL
open PySem PySem.Spec PyProof.Rows L2
open PySem.W (EachIs AllAlike Sortable dataLe alike alikeAll SortsAt sortVals dataKind sortingHeap)

/-! ### sorted -/
section
variable {prog : Program} {w : World} {A : Around} {E : Value → Shared → Prop} {s : Shared}
/-- sorted(v): v is collected, a new list of it is sorted -/
theorem sorted_from {v : Value} {Q : Value → Shared → Prop}
    (h : wpAny (model prog w) A.in1 (collect v) (fun vs s1 => vs.length ≤ sizeLine ∧ ∃ κ, SortsAt prog w A.in1.in1 { s1 with heap := sortingHeap (s1.heap.push (seqObj "list" vs.toArray 0)) s1.heap.objs.size vs } κ vs ∧
      Q (.ref s1.heap.objs.size) { s1 with heap := sortedHeap (s1.heap.push (seqObj "list" vs.toArray 0)) s1.heap.objs.size vs (sortVals κ false vs vs).toArray }) E s) :
    wpAny (model prog w) A (call (.builtin "sorted") [v]) Q E s := by
  refine call_function_entry_kw kind_sorted plain_sorted entry_sorted (args_sorted1 _) ?_
  unfold Builtin.«sorted»
  refine wpAny_bind (m := checkCount "sorted" 1 1 _) (wpAny_pure ?_)
  refine wpAny_bind (wpAny_mono h (fun vs s1 hv => ?_) fun _ _ e => e)
  obtain ⟨hL, κ, S, hQ⟩ := hv
  refine wpAny_bind (wpAny_newList ?_ hL)
  have hat : (s1.heap.push (seqObj "list" vs.toArray 0)).get? s1.heap.objs.size = some (seqObj "list" vs.toArray 0) := Heap.get?_push_size _ rfl
  show wpAny _ _ _ _ _ { s1 with heap := s1.heap.push (seqObj "list" vs.toArray 0) }
  refine wpAny_bind (wpAny_holding (wpAny_call_entry_kw slot_list_sort ⟨_, hat, rfl⟩ entry_list_sort ?body (args_list_sort _)))
  case body =>
    show wpAny (model prog w) A.in1.in1 (Builtin.«list.sort» ⟨[.ref s1.heap.objs.size], []⟩) _ _ _
    exact PySem.W.list_sort_vals (s := { s1 with heap := s1.heap.push (seqObj "list" vs.toArray 0) }) hat S hL ⟨_, rfl, wpAny_pure ⟨_, rfl, hQ⟩⟩
end

/-! ### what is compared: alike data, empty tuples too -/
section
variable {prog : Program} {w : World} {A : Around} {E : Value → Shared → Prop} {s : Shared}
open PySem.SeqAt PySem.W in
theorem oneLt_any {f : Bool} {da db : PyData} {a b : Value} {as bs : List Addr} {Q : Bool → Shared → Prop} (ra : Reads s.heap a da as) (rb : Reads s.heap b db bs) (h : alike da db = true) (hn : da ≠ .none)
    (hu : A.units + min da.depth db.depth < cLine) (hq : Q (dataLt da db) s) : wpAny (model prog w) A (oneLt' f a b) Q E s := by
  cases f with
  | false => exact oneLt_alike (fun z => nomatch z) ra rb h hn hu hq
  | true =>
    cases da with
    | tuple xs =>
      cases db with
      | tuple ys =>
        have hal : alikeAll xs ys = true := by simpa [alike] using h
        cases ra with
        | @tuple l o vs n _ as₁ h1 h2 h3 h4 =>
          cases rb with
          | @tuple l' o' vs' n' _ bs₁ k1 k2 k3 k4 =>
            have n1 : vs.size = xs.length := by simpa using ReadsAll.length _ _ _ h4
            have n2 : vs'.size = ys.length := by simpa using ReadsAll.length _ _ _ k4
            rw [dataLt_tuple, ← firstLt_toks xs ys hal, ← n1, ← n2] at hq
            rw [oneLt'_eq]
            simp only [if_true]
            refine wpAny_bind (wpAny_cRoomFor (room_here hu) ?_)
            obtain ⟨cls, dd, data, sl⟩ := o
            obtain ⟨cls2, dd2, data2, sl2⟩ := o'
            simp only at h2 h3 k2 k3
            subst h2 h3 k2 k3
            refine wpAny_bind (wpAny_callSpecialIfBound?_slot (T := "tuple") ⟨_, h1, rfl⟩ F.slot_tuple_lt (call_meets F.slot_tuple_lt ⟨_, h1, rfl⟩ F.entry_tuple_lt (F.args_tuple_lt_2 _ _)
              (tuple_ltAt l l' vs vs' n n' dd dd2 sl sl2 (pairEq xs ys) (fun j => dataLt (xs.getD j .none) (ys.getD j .none))) ⟨h1, k1, fun j j1 j2 => ?_, fun j j1 j2 hj => ?_, ?_⟩))
            · have := eqAt_alikeAll xs ys A.in1 s vs.toList vs'.toList _ _ h4 k4 hal (room_in hu) j (by simpa using j1) (by simpa using j2)
              simpa using this
            · have := rcLt_alikeAll xs ys A.in1 s vs.toList vs'.toList _ _ h4 k4 hal (room_in hu) j (by simpa using j1) (by simpa using j2) hj
              simpa using this
            · exact wpAny_truthy_bool hq
      | _ => exact absurd h (by simp [alike])
    | _ => exact oneLt_alike (fun _ xs z => PyData.noConfusion z) ra rb h hn hu hq
theorem keyLt'_gen (x y : Value) : keyLt' general' x y = oneLt' false x y := rfl
def filledT : PyData → Bool
  | .tuple [] => false
  | _ => true
theorem mapM_first {M : Model} : ∀ {vs : List Value} {ds : List PyData}, EachIs (fun v d => ∃ as, Reads s.heap v d as) vs ds → (∀ d ∈ ds, ∃ xs, d = .tuple xs) → ∀ {Q : List (Option Value) → Shared → Prop}, (∀ fs : List (Option Value), fs.map Option.isSome = ds.map filledT → Q fs s) → wpAny M A (vs.mapM firstOfTuple') Q E s
  | _, _, .nil, _, Q, h => by rw [List.mapM_nil]; exact wpAny_pure (h [] rfl)
  | _, _, .cons (a := v) (b := d) (as := vs) (bs := ds) ⟨as, r⟩ t, ht, Q, h => by
    rw [List.mapM_cons]
    obtain ⟨xs, rfl⟩ := ht d List.mem_cons_self
    cases r with
    | @tuple l o its n _ _ h1 h2 h3 h4 =>
      refine wpAny_bind ?_
      rw [PySem.W.kas_first_eq]
      refine wpAny_bind (wpAny_typeOf (T := "tuple") ⟨o, h1, h2⟩ ?_)
      rw [if_neg (by decide)]
      refine wpAny_bind (listItems_at h1 h3 ?_)
      refine wpAny_pure ?_
      refine wpAny_bind (mapM_first t (fun d hd => ht d (List.mem_cons_of_mem _ hd)) fun fs hfs => wpAny_pure (h _ ?_))
      rw [List.map_cons, List.map_cons, hfs]
      congr 1
      cases xs with
      | nil =>
        have e : its.toList = [] := by cases q : its.toList with
          | nil => rfl
          | cons _ _ => rw [q] at h4; cases h4
        have e2 : its = #[] := by simpa using e
        rw [e2]; rfl
      | cons x r =>
        cases q : its.toList with
        | nil => rw [q] at h4; cases h4
        | cons f fr =>
          have : its[0]? = some f := by rw [← Array.getElem?_toList, q]; rfl
          rw [this]; rfl
theorem SortsAt.dataE {vs : List Value} {ds : List PyData} (e : EachIs (fun v d => ∃ as, Reads s.heap v d as) vs ds) (hal : AllAlike ds) (hn : ∀ d ∈ ds, d ≠ .none) (hu : ∀ d, d ∈ ds → A.units + d.depth < cLine) : SortsAt prog w A s (dataKind s.heap ds) vs := by
  by_cases hS : Sortable ds
  · exact SortsAt.data e hal hS hu
  · -- tuples, one of them empty
    have h1 : ∀ d ∈ ds, ∃ xs, d = .tuple xs := by
      intro d hd
      apply Classical.byContradiction
      intro hno
      apply hS
      refine .inr fun d' hd' => ⟨hn d' hd', fun xs z => ?_⟩
      have q := hal d hd d' hd'
      subst z
      cases d with
      | tuple ys => exact hno ⟨ys, rfl⟩
      | _ => simp [alike] at q
    have h2 : (ds.map filledT).all id = false := by
      cases q : (ds.map filledT).all id with
      | false => rfl
      | true =>
        exfalso
        apply hS
        refine .inl fun d hd => ?_
        obtain ⟨xs, rfl⟩ := h1 d hd
        cases xs with
        | nil =>
          have := (List.all_eq_true.mp q) (filledT (.tuple [])) (List.mem_map.mpr ⟨_, hd, rfl⟩)
          simp [filledT] at this
        | cons x r => exact ⟨x, r, rfl⟩
    have room : ∀ {d d' : PyData}, d ∈ ds → A.units + min d.depth d'.depth < cLine := fun {d d'} hd => Nat.lt_of_le_of_lt (Nat.add_le_add_left (Nat.min_le_left _ _) _) (hu d hd)
    have ltG : PyProof.Rows.H.LtAt prog w A s (dataKind s.heap ds) general' := by
      intro E x y a b Q ha hb hq
      obtain ⟨d, as, hd, ra, rfl⟩ := PySem.W.dataKind_inv ha
      obtain ⟨d', as', hd', rb, rfl⟩ := PySem.W.dataKind_inv hb
      rw [keyLt'_gen]
      exact oneLt_any ra rb (hal d hd d' hd') (hn d hd) (room hd) hq
    have ltO : PyProof.Rows.H.LtAt prog w A s (dataKind s.heap ds) oneType' := by
      intro E x y a b Q ha hb hq
      obtain ⟨d, as, hd, ra, rfl⟩ := PySem.W.dataKind_inv ha
      obtain ⟨d', as', hd', rb, rfl⟩ := PySem.W.dataKind_inv hb
      rw [keyLt'_oneType]
      exact oneLt_any ra rb (hal d hd d' hd') (hn d hd) (room hd) hq
    refine ⟨fun v hv => ?_, ?_⟩
    · obtain ⟨d, hd, as, r⟩ := e.left v hv
      exact ⟨_, PySem.W.dataKind_some hal hd r⟩
    · cases hf : (ds.map filledT).head? with
      | none =>
        refine ⟨general', ltG, fun h2' E Q hq => ?_⟩
        have : ds = [] := by cases ds with
          | nil => rfl
          | cons _ _ => simp at hf
        subst this
        cases e
        simp at h2'
      | some b0 =>
        have go : ∀ (E : Value → Shared → Prop) (Q : SortKind → Shared → Prop), 2 ≤ vs.length → Q (if b0 = true then general' else oneType') s → wpAny (model prog w) A (keyKind' vs.toArray) Q E s := by
          intro E Q hlen hq
          rw [keyKind'_eq, List.mapM_toArray, map_eq_pure_bind]
          refine wpAny_bind (wpAny_bind (mapM_first e h1 fun fs hfs => wpAny_pure ?_))
          have ha : (fs.toArray.all fun x => x.isSome) = false := by
            rw [List.all_toArray]
            have : fs.all (fun x => x.isSome) = (fs.map Option.isSome).all id := by rw [List.all_map]; rfl
            rw [this, hfs, h2]
          rw [if_neg (by rw [ha]; decide)]
          have h0 : (fs.toArray[0]?.bind id).isSome = b0 := by
            have q : (fs.map Option.isSome).head? = some b0 := by rw [hfs, hf]
            cases fs with
            | nil => simp at q
            | cons x r =>
              simp at q
              simp
              exact q
          rw [h0]
          cases b0 with
          | true =>
            rw [if_pos rfl] at hq ⊢
            exact wpAny_pure hq
          | false =>
            rw [if_neg (by decide)] at hq ⊢
            rw [oneTypeOnly'_eq, List.mapM_toArray, map_eq_pure_bind]
            have hT : ∀ v ∈ vs, PySem.W.Looks (model prog w) s.heap (typeOf v) (Value.type "tuple") := fun v hv => by
              obtain ⟨d, hd, as, r⟩ := e.left v hv
              obtain ⟨xs, rfl⟩ := h1 d hd
              exact PySem.W.looks_reads r
            obtain ⟨v₁, v₂, rest, rfl⟩ : ∃ v₁ v₂ rest, vs = v₁ :: v₂ :: rest := by
              match vs, hlen with
              | [], h2 => simp at h2
              | [_], h2 => simp at h2
              | v₁ :: v₂ :: rest, _ => exact ⟨v₁, v₂, rest, rfl⟩
            refine wpAny_bind (wpAny_bind (wpAny_bind (PySem.W.kas_mapM (r := Value.type "tuple") _ (fun v hv Q' hq => (hT v hv).here hq) (wpAny_pure ?_))))
            have hall : ((List.map (fun _ => Value.type "tuple") (v₁ :: v₂ :: rest)).toArray.all fun x => x == Value.type "tuple") = true := by
              simp only [List.all_toArray, List.all_map, List.all_eq_true]
              intro _ _
              rfl
            have h0 : (List.map (fun _ => Value.type "tuple") (v₁ :: v₂ :: rest)).toArray[0]? = some (Value.type "tuple") := by simp
            rw [h0]
            simp only [hall, if_true]
            exact wpAny_pure (wpAny_pure hq)
        cases b0 with
        | true => exact ⟨general', ltG, fun h2' E Q hq => go E Q h2' hq⟩
        | false => exact ⟨oneType', ltO, fun h2' E Q hq => go E Q h2' hq⟩
end
end VL
end

section
set_option Elab.async false
set_option linter.all false
set_option maxRecDepth 100000
namespace VL
open PySem PySem.Spec PyProof.Rows L2
open PySem.W (EachIs AllAlike Sortable dataLe dataLt alike alikeAll SortsAt sortVals dataKind sortingHeap TotalLe sameRank)

/-! ### data of one shape, their order -/
inductive Shp where
  | no | non | bl | int | str | tup (l : List Shp) | lst (l : List Shp)
mutual
def Shp.mg : Shp → Shp → Shp
  | .no, s => s
  | .tup a, .tup b => .tup (Shp.mgs a b)
  | .lst a, .lst b => .lst (Shp.mgs a b)
  | s, _ => s
def Shp.mgs : List Shp → List Shp → List Shp
  | [], b => b
  | a :: as, [] => a :: as
  | a :: as, b :: bs => Shp.mg a b :: Shp.mgs as bs
end
mutual
def Shp.dep : Shp → Nat
  | .tup l => Shp.deps l + 1
  | .lst l => Shp.deps l + 1
  | _ => 0
def Shp.deps : List Shp → Nat
  | [] => 0
  | s :: l => max (Shp.dep s) (Shp.deps l)
end
mutual
def P.shp : P → Shp
  | .non => .non
  | .bl _ => .bl
  | .int _ => .int
  | .str _ => .str
  | .tup _ l => .tup (P.shps l)
  | .lst l => .lst (P.shps l)
  | _ => .no
def P.shps : List P → List Shp
  | [] => []
  | p :: l => P.shp p :: P.shps l
end
mutual
def P.fits : P → Shp → Bool
  | .non, .non => true
  | .bl _, .bl => true
  | .int _, .int => true
  | .str x, .str => PyData.strOk x
  | .tup _ l, .tup s => P.fitss l s
  | .lst l, .lst s => P.fitss l s
  | _, _ => false
def P.fitss : List P → List Shp → Bool
  | [], _ => true
  | p :: l, s :: r => P.fits p s && P.fitss l r
  | _ :: _, [] => false
end
mutual
def eqP : P → P → Bool
  | .non, .non => true
  | .bl a, .bl b => a == b
  | .int a, .int b => a == b
  | .str a, .str b => a == b
  | .tup _ l, .tup _ m => eqPs l m
  | .lst l, .lst m => eqPs l m
  | _, _ => false
def eqPs : List P → List P → Bool
  | [], [] => true
  | p :: l, q :: m => eqP p q && eqPs l m
  | _, _ => false
end
mutual
def ltP : P → P → Bool
  | .bl a, .bl b => !a && b
  | .int a, .int b => decide (a < b)
  | .str a, .str b => decide (a.cps.toList < b.cps.toList)
  | .tup _ l, .tup _ m => ltPs l m
  | .lst l, .lst m => ltPs l m
  | _, _ => false
def ltPs : List P → List P → Bool
  | [], [] => false
  | [], _ :: _ => true
  | _ :: _, [] => false
  | p :: l, q :: m => if eqP p q = true then ltPs l m else ltP p q
end
mutual
theorem fits_ok : ∀ (s : Shp) (p q : P), p.fits s = true → q.fits s = true → alike p.d q.d = true ∧ PyData.eqv p.d q.d = eqP p q ∧ dataLt p.d q.d = ltP p q
  | .no, p, q, h, _ => by cases p <;> simp [P.fits] at h
  | .non, p, q, h, h' => by
    cases p <;> simp [P.fits] at h
    cases q <;> simp [P.fits] at h'
    exact ⟨by simp [P.d, alike], by simp [P.d, PyData.eqv, eqP], by simp [P.d, ltP]; rfl⟩
  | .bl, p, q, h, h' => by
    cases p <;> simp [P.fits] at h
    cases q <;> simp [P.fits] at h'
    rename_i a b
    refine ⟨by simp [P.d, alike], by simp [P.d, PyData.eqv, eqP], ?_⟩
    simp only [P.d, ltP, PySem.W.dataLt_bool]
    cases a <;> cases b <;> rfl
  | .int, p, q, h, h' => by
    cases p <;> simp [P.fits] at h
    cases q <;> simp [P.fits] at h'
    exact ⟨by simp [P.d, alike], by simp [P.d, PyData.eqv, eqP], by simp only [P.d, ltP, PySem.W.dataLt_int]⟩
  | .str, p, q, h, h' => by
    cases p <;> simp [P.fits] at h
    cases q <;> simp [P.fits] at h'
    exact ⟨by simp [P.d, alike], by simp [P.d, PyData.eqv, eqP], by simp only [P.d, ltP, PySem.W.dataLt_str]⟩
  | .tup l, p, q, h, h' => by
    cases p <;> simp [P.fits] at h
    cases q <;> simp [P.fits] at h'
    obtain ⟨h1, h2, h3⟩ := fitss_ok l _ _ h h'
    exact ⟨by simpa [P.d, alike] using h1, by simpa [P.d, PyData.eqv, eqP] using h2, by simp only [P.d, ltP, PySem.W.dataLt_tuple]; exact h3⟩
  | .lst l, p, q, h, h' => by
    cases p <;> simp [P.fits] at h
    cases q <;> simp [P.fits] at h'
    obtain ⟨h1, h2, h3⟩ := fitss_ok l _ _ h h'
    exact ⟨by simpa [P.d, alike] using h1, by simpa [P.d, PyData.eqv, eqP] using h2, by simp only [P.d, ltP, PySem.W.dataLt_list]; exact h3⟩
theorem fitss_ok : ∀ (s : List Shp) (p q : List P), P.fitss p s = true → P.fitss q s = true → alikeAll (P.ds p) (P.ds q) = true ∧ PyData.eqvAll (P.ds p) (P.ds q) = eqPs p q ∧ PyProof.Rows.lexLt itemOrd (PySem.W.keyToksAll (P.ds p)) (PySem.W.keyToksAll (P.ds q)) = ltPs p q
  | _, [], [], _, _ => ⟨by simp [P.ds, alikeAll], by simp [P.ds, PyData.eqvAll, eqPs], by simp only [P.ds, ltPs]; rfl⟩
  | _, [], q :: m, _, _ => ⟨by simp [P.ds, alikeAll], by simp [P.ds, PyData.eqvAll, eqPs], by simp only [P.ds, ltPs]; rfl⟩
  | _, p :: l, [], _, _ => ⟨by simp [P.ds, alikeAll], by simp [P.ds, PyData.eqvAll, eqPs], by simp only [P.ds, ltPs]; rfl⟩
  | [], p :: l, q :: m, h, _ => by simp [P.fitss] at h
  | s :: r, p :: l, q :: m, h, h' => by
    simp [P.fitss] at h h'
    obtain ⟨a1, a2, a3⟩ := fits_ok s p q h.1 h'.1
    obtain ⟨b1, b2, b3⟩ := fitss_ok r l m h.2 h'.2
    refine ⟨by simp [P.ds, alikeAll, a1, b1], by simp [P.ds, PyData.eqvAll, eqPs, a2, b2], ?_⟩
    simp only [P.ds, ltPs]
    rw [PySem.W.dataLt_cons a1, a2, a3, b3]
end
mutual
theorem fits_lay : ∀ (s : Shp) (p : P), p.fits s = true → p.d.canLay0 = true ∧ p.d.depth ≤ s.dep
  | .no, p, h => by cases p <;> simp [P.fits] at h
  | .non, p, h => by cases p <;> simp [P.fits] at h; simp [P.d, PyData.canLay0, PyData.depth]
  | .bl, p, h => by cases p <;> simp [P.fits] at h; simp [P.d, PyData.canLay0, PyData.depth]
  | .int, p, h => by cases p <;> simp [P.fits] at h; simp [P.d, PyData.canLay0, PyData.depth]
  | .str, p, h => by cases p <;> simp [P.fits] at h; simp [P.d, PyData.canLay0, PyData.depth, h]
  | .tup l, p, h => by
    cases p <;> simp [P.fits] at h
    obtain ⟨h1, h2⟩ := fitss_lay l _ h
    refine ⟨by simpa [P.d, PyData.canLay0] using h1, ?_⟩
    simp only [P.d, PyData.depth, Shp.dep]
    omega
  | .lst l, p, h => by
    cases p <;> simp [P.fits] at h
    obtain ⟨h1, h2⟩ := fitss_lay l _ h
    refine ⟨by simpa [P.d, PyData.canLay0] using h1, ?_⟩
    simp only [P.d, PyData.depth, Shp.dep]
    omega
theorem fitss_lay : ∀ (s : List Shp) (p : List P), P.fitss p s = true → PyData.canLayAll0 (P.ds p) = true ∧ PyData.depthAll (P.ds p) ≤ Shp.deps s
  | _, [], _ => ⟨by simp [P.ds, PyData.canLayAll0], by simp [P.ds, PyData.depthAll]⟩
  | [], p :: l, h => by simp [P.fitss] at h
  | s :: r, p :: l, h => by
    simp [P.fitss] at h
    obtain ⟨a1, a2⟩ := fits_lay s p h.1
    obtain ⟨b1, b2⟩ := fitss_lay r l h.2
    refine ⟨by simp [P.ds, PyData.canLayAll0, a1, b1], ?_⟩
    simp only [P.ds, PyData.depthAll, Shp.deps]
    omega
end
/-! ### a sort that the kernel can run -/
section
variable {α : Type} {le : α → α → Bool}
def insS (le : α → α → Bool) (x : α) : List α → List α
  | [] => [x]
  | y :: l => if le x y = true then x :: y :: l else y :: insS le x l
def isort (le : α → α → Bool) : List α → List α
  | [] => []
  | x :: l => insS le x (isort le l)
theorem insS_mem (x : α) : ∀ (l : List α) (z : α), z ∈ insS le x l ↔ z = x ∨ z ∈ l
  | [], z => by simp [insS]
  | y :: l, z => by
    unfold insS
    split
    · simp
    · rw [List.mem_cons, insS_mem x l z, List.mem_cons]
      exact ⟨fun h => h.elim (fun h => .inr (.inl h)) fun h => h.elim .inl fun h => .inr (.inr h), fun h => h.elim (fun h => .inr (.inl h)) fun h => h.elim .inl fun h => .inr (.inr h)⟩
theorem isort_mem : ∀ (l : List α) (z : α), z ∈ isort le l ↔ z ∈ l
  | [], z => by simp [isort]
  | x :: l, z => by unfold isort; rw [insS_mem, isort_mem l z, List.mem_cons]
theorem insS_len (x : α) : ∀ (l : List α), (insS le x l).length = l.length + 1
  | [] => rfl
  | y :: l => by
    unfold insS
    split
    · rfl
    · rw [List.length_cons, insS_len x l, List.length_cons]
theorem isort_len : ∀ (l : List α), (isort le l).length = l.length
  | [] => rfl
  | x :: l => by unfold isort; rw [insS_len, isort_len l, List.length_cons]
theorem insS_sorted (h : TotalLe le) (x : α) : ∀ {l : List α}, l.Pairwise (fun a b => le a b = true) → (insS le x l).Pairwise (fun a b => le a b = true)
  | [], _ => List.pairwise_singleton _ _
  | y :: l, hl => by
    rw [List.pairwise_cons] at hl
    unfold insS
    split
    · rename_i hxy
      refine List.pairwise_cons.mpr ⟨fun z hz => ?_, List.pairwise_cons.mpr hl⟩
      rcases List.mem_cons.mp hz with q | q
      · rw [q]; exact hxy
      · exact h.trans _ _ _ hxy (hl.1 z q)
    · rename_i hxy
      refine List.pairwise_cons.mpr ⟨fun z hz => ?_, insS_sorted h x hl.2⟩
      rcases (insS_mem x l z).mp hz with q | q
      · rw [q]; exact (h.total x y).resolve_left hxy
      · exact hl.1 z q
theorem isort_sorted (h : TotalLe le) : ∀ l : List α, (isort le l).Pairwise (fun a b => le a b = true)
  | [] => .nil
  | x :: l => insS_sorted h x (isort_sorted h l)
theorem insS_rank (h : TotalLe le) (x c : α) : ∀ l : List α, (insS le x l).filter (sameRank le c) = (x :: l).filter (sameRank le c)
  | [] => rfl
  | y :: l => by
    unfold insS
    split
    · rfl
    · rename_i hxy
      rw [List.filter_cons, insS_rank h x c l]
      rw [List.filter_cons (x := x) (xs := l), List.filter_cons (x := x) (xs := y :: l), List.filter_cons (x := y) (xs := l)]
      by_cases h1 : sameRank le c x = true
      · by_cases h2 : sameRank le c y = true
        · exfalso
          unfold sameRank at h1 h2
          rw [Bool.and_eq_true] at h1 h2
          exact hxy (h.trans _ _ _ h1.2 h2.1)
        · simp [h2]
      · simp [h1]
theorem isort_rank (h : TotalLe le) (c : α) : ∀ l : List α, (isort le l).filter (sameRank le c) = l.filter (sameRank le c)
  | [] => rfl
  | x :: l => by
    unfold isort
    rw [insS_rank h, List.filter_cons, isort_rank h c l, List.filter_cons]
theorem isort_eq (h : TotalLe le) (l : List α) : isort le l = l.mergeSort le := PySem.W.sort_unique h (isort_sorted h l) fun c => isort_rank h c l
theorem insS_congr {le' : α → α → Bool} (x : α) : ∀ (l : List α), (∀ y ∈ l, le x y = le' x y) → insS le x l = insS le' x l
  | [], _ => rfl
  | y :: l, h => by
    unfold insS
    rw [h y List.mem_cons_self, insS_congr x l fun z hz => h z (List.mem_cons_of_mem _ hz)]
theorem isort_congr {le' : α → α → Bool} : ∀ (l : List α), (∀ x ∈ l, ∀ y ∈ l, le x y = le' x y) → isort le l = isort le' l
  | [], _ => rfl
  | x :: l, h => by
    unfold isort
    rw [isort_congr l fun a ha b hb => h a (List.mem_cons_of_mem _ ha) b (List.mem_cons_of_mem _ hb)]
    exact insS_congr x _ fun y hy => h x List.mem_cons_self y (List.mem_cons_of_mem _ ((isort_mem l y).mp hy))
end
def leP (p q : P) : Bool := !ltP q p
def shpAll : List P → Shp
  | [] => .no
  | p :: l => Shp.mg p.shp (shpAll l)
/-- all of one shape, none None -/
def sortOk (l : List P) : Bool := match shpAll l with
  | .non => false
  | s => decide (s.dep ≤ 40) && l.all fun p => p.fits s
def sortP (l : List P) : List P := isort leP l
def gSortS : List P → Option P
  | [p] => p.items.bind fun l => if sortOk l = true then some (.lst (sortP l)) else none
  | _ => none
section
variable {K : PySem.W.Frag} {Z H : Hp}
theorem Rr.sqk {p : P} {v : V} {l : List P} (s : Same Z H) (h : Rr K Z H p v) (e : p.items = some l) : ∃ k a vs, v = .ref a ∧ SqK K k H a vs ∧ Rps K Z l vs := by
  cases p with
  | lst l' =>
    cases e
    obtain ⟨a, vs, h1, h2, h3⟩ := h
    exact ⟨.l, a, vs, h1, SqL.of h2, h3⟩
  | tup b l' =>
    cases e
    obtain ⟨a, vs, h1, h2, h3⟩ := h
    exact ⟨.t, a, vs, h1, Same.seqT s h2.1, h3⟩
  | _ => cases e
theorem each_in : ∀ {l : List P} {vs : List V} {its : List Value}, Vals vs its → Rps K Z l vs → EachIs (fun u p => ∃ v, RelV v u ∧ Rp K Z p v) its l
  | [], _, _, r, h => by
    rw [show _ = _ from h] at r
    cases r
    exact .nil
  | p :: l, _, _, r, ⟨v, vs, h1, h2, h3⟩ => by
    subst h1
    cases r with
    | cons r1 r2 => exact .cons ⟨v, r1, h2⟩ (each_in r2 h3)
theorem each_out : ∀ {l : List P} {its : List Value}, EachIs (fun u p => ∃ v, RelV v u ∧ Rp K Z p v) its l → ∃ vs, Vals vs its ∧ Rps K Z l vs
  | [], _, h => by
    cases h
    exact ⟨[], .nil, rfl⟩
  | p :: l, _, h => by
    cases h with
    | cons h1 h2 =>
      obtain ⟨v, r1, r2⟩ := h1
      obtain ⟨vs, q1, q2⟩ := each_out h2
      exact ⟨v :: vs, .cons r1 q1, v, vs, rfl, r2, q2⟩
end
/-- what a call asks: the data it is given, what it gives -/
def rOf (K : PySem.W.Frag) (g : List P → Option P) : List V → Hp → VK → Prop := fun vs H Q => ∃ Z ps z, Same Z H ∧ Rrs K Z H ps vs ∧ g ps = some z ∧ ∀ Z' H' v, Ex Z H Z' H' → Rp K Z' z v → Q v H'
theorem cv_of {K : PySem.W.Frag} {g : List P → Option P} : CallV K (rOf K g) g := fun H Z vs ps z Q s h e k => ⟨Z, ps, z, s, h, e, k⟩
/-- a new list is handed on -/
def Fresh (K : PySem.W.Frag) (Z H : Hp) (l : List P) (Q : VK) : Prop := ∀ Z' a vs, Ex Z H Z' H → H a = none → Rps K Z' l vs → Q (.ref a) (upd H a (.lst vs))
theorem Fresh.of {K : PySem.W.Frag} {Z H : Hp} {l : List P} {Q : VK} (k : ∀ Z' H' v, Ex Z H Z' H' → Rp K Z' (.lst l) v → Q v H') : Fresh K Z H l Q := fun Z' a vs x1 hn rp =>
  k _ _ _ (x1.trans (Ex.lay x1.zh hn)) ⟨a, vs, rfl, upd_same, Rps.mono (Ex.lay x1.zh hn).z _ _ rp⟩
theorem Fresh.ex {K : PySem.W.Frag} {Z Z1 H : Hp} {l : List P} {Q : VK} (h : Fresh K Z H l Q) (x : Ex Z H Z1 H) : Fresh K Z1 H l Q := fun Z' a vs x1 hn rp => h Z' a vs (x.trans x1) hn rp
/-- a list that reads so, sorted -/
theorem sort_coreN {X : Cx} {pins : List (Addr × Obj)} {σ : L2.St} {H Z : Hp} {s : Shared} {l : List P} {vs : List V} {its : List Value} {Q : VK} (hu : X.A.units + 64 < cLine) (I : Inv X pins σ H s) (sm : Same Z H) (rv : Vals vs its) (rp : Rps X.K Z l vs) (ok : sortOk l = true) (hL : its.length ≤ sizeLine)
    (k : Fresh X.K Z H (sortP l) Q) :
    ∃ κ, SortsAt X.prog X.w X.A.in1.in1 { s with heap := sortingHeap (s.heap.push (seqObj "list" its.toArray 0)) s.heap.objs.size its } κ its ∧
      EP X pins σ Q (.ref s.heap.objs.size) { s with heap := sortedHeap (s.heap.push (seqObj "list" its.toArray 0)) s.heap.objs.size its (sortVals κ false its its).toArray } := by
  obtain ⟨sh, hsd, hfit, hne⟩ : ∃ sh : Shp, sh.dep ≤ 40 ∧ (∀ p ∈ l, p.fits sh = true) ∧ (∀ p ∈ l, p.d ≠ .none) := by
    unfold sortOk at ok
    have mk : ∀ sh : Shp, sh ≠ .non → (decide (sh.dep ≤ 40) && l.all fun p => p.fits sh) = true → ∃ sh : Shp, sh.dep ≤ 40 ∧ (∀ p ∈ l, p.fits sh = true) ∧ (∀ p ∈ l, p.d ≠ .none) := fun sh hs h => by
      rw [Bool.and_eq_true] at h
      have hf : ∀ p ∈ l, p.fits sh = true := List.all_eq_true.mp h.2
      refine ⟨sh, of_decide_eq_true h.1, hf, fun p hp z => ?_⟩
      have q := hf p hp
      cases p <;> simp [P.d] at z
      cases sh <;> simp [P.fits] at q
      exact hs rfl
    split at ok
    · cases ok
    · rename_i sh hs
      exact mk _ (fun z => hs z) ok
  have hal : AllAlike (l.map P.d) := by
    intro d hd d' hd'
    obtain ⟨p, hp, rfl⟩ := List.mem_map.mp hd
    obtain ⟨q, hq, rfl⟩ := List.mem_map.mp hd'
    exact (fits_ok sh p q (hfit p hp) (hfit q hq)).1
  have lay : PyData.canLayAll0 (P.ds l) = true := by
    have : ∀ m : List P, (∀ p ∈ m, p.fits sh = true) → PyData.canLayAll0 (P.ds m) = true := by
      intro m
      induction m with
      | nil => intro _; simp [P.ds, PyData.canLayAll0]
      | cons p m ih => intro h; simp [P.ds, PyData.canLayAll0, (fits_lay sh p (h p List.mem_cons_self)).1, ih fun q hq => h q (List.mem_cons_of_mem _ hq)]
    exact this l hfit
  obtain ⟨as, rd⟩ := Dp.readsAll I (P.ds l) vs its (Rps.dp sm l vs rp lay) rv
  rw [P.ds_map] at rd
  have kp : ∀ b o, s.heap.get? b = some o → (sortingHeap (s.heap.push (seqObj "list" its.toArray 0)) s.heap.objs.size its).get? b = some o := fun b o e => PySem.W.sortingHeap_old (Nat.ne_of_lt (Heap.lt_size e)) (Heap.get?_push_of_some _ e)
  have er : EachIs (fun v b => ∃ as, Reads (sortingHeap (s.heap.push (seqObj "list" its.toArray 0)) s.heap.objs.size its) v (P.d b) as) its l :=
    (PySem.W.readsAll_each P.d rd).mono fun _ _ ⟨as, r⟩ => ⟨as, PyProof.Rows.Reads.keeps kp r⟩
  refine ⟨dataKind (sortingHeap (s.heap.push (seqObj "list" its.toArray 0)) s.heap.objs.size its) (l.map P.d), ?_, ?_⟩
  · refine SortsAt.dataE (PySem.W.each_map (R := fun v d => ∃ as, Reads (sortingHeap (s.heap.push (seqObj "list" its.toArray 0)) s.heap.objs.size its) v d as) P.d er) hal (fun d hd => ?_) (fun d hd => ?_)
    · obtain ⟨p, hp, rfl⟩ := List.mem_map.mp hd
      exact hne p hp
    · obtain ⟨p, hp, rfl⟩ := List.mem_map.mp hd
      have h1 := (fits_lay sh p (hfit p hp)).2
      show X.A.units + 1 + 1 + _ < _
      omega
  · have e2 := PySem.W.sortVals_data (h' := sortingHeap (s.heap.push (seqObj "list" its.toArray 0)) s.heap.objs.size its) false (each_in rv rp) er hal
    have esort : l.mergeSort (dataLe false P.d) = sortP l := by
      have tl : TotalLe (dataLe false P.d) := PySem.W.sortLe_total (listOrd itemOrd) false fun b => PySem.W.keyToks (P.d b)
      rw [← isort_eq tl l]
      refine isort_congr l fun p hp q hq => ?_
      show (!dataLt q.d p.d) = leP p q
      rw [(fits_ok sh q p (hfit q hq) (hfit p hp)).2.2]
      rfl
    rw [esort] at e2
    obtain ⟨vs', q1, q2⟩ := each_out e2
    have hat : (s.heap.push (seqObj "list" its.toArray 0)).get? s.heap.objs.size = some (seqObj "list" its.toArray 0) := Heap.get?_push_size _ rfl
    obtain ⟨ep, hout⟩ := sortedHeap_at (out := (sortVals (dataKind (sortingHeap (s.heap.push (seqObj "list" its.toArray 0)) s.heap.objs.size its) (l.map P.d)) false its its).toArray) hat
    have kp2 : ∀ b o, s.heap.get? b = some o → (sortedHeap (s.heap.push (seqObj "list" its.toArray 0)) s.heap.objs.size its (sortVals (dataKind (sortingHeap (s.heap.push (seqObj "list" its.toArray 0)) s.heap.objs.size its) (l.map P.d)) false its its).toArray).get? b = some o := fun b o e => by
      rw [sortedHeap_old (Nat.ne_of_lt (Heap.lt_size e)) (by rw [size_push']; exact Nat.lt_succ_of_lt (Heap.lt_size e))]
      exact Heap.get?_push_of_some _ e
    have hlen : vs'.length ≤ sizeLine := by
      rw [← q2.length]
      unfold sortP
      rw [isort_len, rp.length, rv.length]
      exact hL
    have I1 : Inv X pins σ (upd H s.heap.objs.size (.lst vs')) { s with heap := _ } := I.laid (t' := s.toks) kp2 (Nat.le_refl _) ⟨hlen, _, _, q1, hout⟩
    have hn := I.hok.fresh (Nat.le_refl s.heap.objs.size)
    exact ⟨.ref s.heap.objs.size, _, I1, rfl, k Z _ vs' (.refl sm) hn q2⟩
theorem sort_core {X : Cx} {pins : List (Addr × Obj)} {σ : L2.St} {H Z : Hp} {s : Shared} {l : List P} {vs : List V} {its : List Value} {Q : VK} (hu : X.A.units + 64 < cLine) (I : Inv X pins σ H s) (sm : Same Z H) (rv : Vals vs its) (rp : Rps X.K Z l vs) (ok : sortOk l = true) (hL : its.length ≤ sizeLine)
    (k : ∀ Z' H' v, Ex Z H Z' H' → Rp X.K Z' (.lst (sortP l)) v → Q v H') :
    ∃ κ, SortsAt X.prog X.w X.A.in1.in1 { s with heap := sortingHeap (s.heap.push (seqObj "list" its.toArray 0)) s.heap.objs.size its } κ its ∧
      EP X pins σ Q (.ref s.heap.objs.size) { s with heap := sortedHeap (s.heap.push (seqObj "list" its.toArray 0)) s.heap.objs.size its (sortVals κ false its its).toArray } := sort_coreN hu I sm rv rp ok hL (Fresh.of k)
theorem collect_sq {X : Cx} {pins : List (Addr × Obj)} {σ : L2.St} {H Z : Hp} {s : Shared} {A : Around} {E : Value → Shared → Prop} {p : P} {v : V} {u : Value} {l : List P} {R : List Value → Shared → Prop} (I : Inv X pins σ H s) (sm : Same Z H) (rr : Rr X.K Z H p v) (ru : RelV v u) (hk : p.items = some l)
    (k : ∀ us its h', Vals us its → Rps X.K Z l us → its.length ≤ sizeLine → Inv X pins σ H { s with heap := h' } → R its { s with heap := h' }) : wpAny (model X.prog X.w) A (collect u) R E s := by
  obtain ⟨kd, a, vs, rfl, sq, rp⟩ := rr.sqk sm hk
  cases ru
  obtain ⟨its, rv, p'⟩ := invK I sq
  have hL : its.length ≤ sizeLine := by
    cases kd
    · obtain ⟨its', rv', p1, hz⟩ := I.list sq
      rw [← rv.length]; exact hz
    · obtain ⟨its', rv', p1, hz⟩ := I.tuple sq
      rw [← rv.length]; exact hz
  have go : ∀ (T : String) (o : Obj) (n : Nat), (T = "list" ∨ T = "tuple") → s.heap.get? a = some o → o.cls = .type T → o.data = .seq its.toArray n → wpAny (model X.prog X.w) A (collect (.ref a)) R E s := by
    intro T o n hT ho hc hd
    refine wpAny_collect_seq a hT ho hc hd (fun h' hk => ?_) (by rw [List.size_toArray]; exact hL)
    exact k vs its h' rv rp hL (I.kept (t' := s.toks) hk)
  cases kd
  · obtain ⟨o, ho, hc, n, hd⟩ := p'
    exact go "list" o n (.inl rfl) ho hc hd
  · obtain ⟨o, ho, hc, n, hd⟩ := p'
    exact go "tuple" o n (.inr rfl) ho hc hd
theorem cal_sortS {X : Cx} (hu : X.A.units + 64 < cLine) : Cal X (.builtin "sorted") gSortS := by
  refine ⟨rOf X.K gSortS, fun pins s σ H xs us Q I r h => ?_, cv_of⟩
  obtain ⟨Z, ps, z, sm, rr, e, k⟩ := h
  unfold gSortS at e
  split at e
  · obtain ⟨l, e1, e2⟩ := Option.bind_eq_some_iff.mp e
    split at e2
    · rename_i p ok
      cases e2
      obtain ⟨v, h1, h2⟩ := rrs1 rr
      obtain ⟨kd, a, vs, rfl, sq, rp⟩ := h2.sqk sm e1
      subst h1
      cases r with
      | cons r1 r2 =>
        cases r2
        cases r1
        obtain ⟨its, rv, p'⟩ := invK I sq
        have hL : its.length ≤ sizeLine := by
          cases kd
          · obtain ⟨its', rv', p1, hz⟩ := I.list sq
            rw [← rv.length]; exact hz
          · obtain ⟨its', rv', p1, hz⟩ := I.tuple sq
            rw [← rv.length]; exact hz
        refine sorted_from ?_
        have go : ∀ (T : String) (o : Obj) (n : Nat), (T = "list" ∨ T = "tuple") → s.heap.get? a = some o → o.cls = .type T → o.data = .seq its.toArray n → wpAny (model X.prog X.w) X.A.in1 (collect (.ref a)) (fun vs s1 => vs.length ≤ sizeLine ∧ ∃ κ, SortsAt X.prog X.w X.A.in1.in1 { s1 with heap := sortingHeap (s1.heap.push (seqObj "list" vs.toArray 0)) s1.heap.objs.size vs } κ vs ∧
            EP X pins σ Q (.ref s1.heap.objs.size) { s1 with heap := sortedHeap (s1.heap.push (seqObj "list" vs.toArray 0)) s1.heap.objs.size vs (sortVals κ false vs vs).toArray }) X.xe s := by
          intro T o n hT ho hc hd
          refine wpAny_collect_seq a hT ho hc hd (fun h' hk => ?_) (by rw [List.size_toArray]; exact hL)
          have I1 : Inv X pins σ H { s with heap := h' } := I.kept (t' := s.toks) hk
          exact ⟨hL, sort_core hu I1 sm rv rp ok hL k⟩
        cases kd
        · obtain ⟨o, ho, hc, n, hd⟩ := p'
          exact go "list" o n (.inl rfl) ho hc hd
        · obtain ⟨o, ho, hc, n, hd⟩ := p'
          exact go "tuple" o n (.inr rfl) ho hc hd
    · cases e2
  · cases e
end VL
end

section
set_option Elab.async false
set_option linter.all false
set_option maxRecDepth 100000
namespace VL
open PySem PySem.Spec PyProof.Rows L2

/-! ### a name of the module that holds data -/
theorem vq_top {X : Cx} {nm : Str} {p : P} {v : V} {u : Value} {pos : Pos} (hg : Gl X nm) (hm : X.mg nm = some u) (hv : RelV v u) (hp : ∀ Z, Rp X.K Z p v) (hd : (nm == ("__debug__" : Str)) = false := by decide) : VQ X (.Name nm pos) (eC p) :=
  ⟨_, pe_glob hg hm hv hd, fun σ H Z e A q Q o e1 k => by cases e1; exact k Z H _ (.refl o.zh) (hp Z)⟩
/-! ### [e for t in it if c for t1 in it1 if c1] -/
def lc2E (vs : List Nat) (u : Tg) (ts : ET) (fi1 : EI) (vs1 : List Nat) (u1 : Tg) (ts1 : ET) (fe : EF) : List P → En → Option (List P × En)
  | [], e => some ([], e)
  | p :: l, e => (asT u p e).bind fun e1 => (ts e1).bind fun b => if b.1 = true then (fi1 b.2).bind fun q => (lcE vs1 u1 ts1 fe q.1 (wipeE q.2 vs1)).bind fun r => (lc2E vs u ts fi1 vs1 u1 ts1 fe l (wipeE r.2 vs)).map fun z => (r.1 ++ z.1, z.2)
    else lc2E vs u ts fi1 vs1 u1 ts1 fe l (wipeE b.2 vs)
def dLc2 (vs : List Nat) (u : Tg) (ts : ET) (fi1 : EI) (vs1 : List Nat) (u1 : Tg) (ts1 : ET) (fe : EF) (fi : EI) : ED := fun e => (fi e).bind fun q => (lc2E vs u ts fi1 vs1 u1 ts1 fe q.1 (wipeE q.2 vs)).bind fun r => if r.1.length ≤ sizeLine ∧ (∀ i ∈ vs, i < q.2.length) then some (.lst r.1, r.2) else none
theorem asideD {D : Addr} {us : List V} {Za Ha Zb Hb : Hp} {Aa Ab : List Addr} (s : Stp Aa Za Ha Zb Hb) (b : Sub Aa Ha Ab) (hd : Ha D = some (.lst us)) (hn : D ∉ Aa) (hz : Za D = none) : Hb D = some (.lst us) ∧ D ∉ Ab ∧ Zb D = none := by
  refine ⟨s.keep D _ hd hn, fun z => ?_, ?_⟩
  · rcases b D z with w | w
    · exact hn w
    · rw [hd] at w; cases w
  · cases zz : Zb D with
    | none => rfl
    | some u =>
      rcases s.new D u zz with w | w | w | ⟨_, w⟩
      · rw [hz] at w; cases w
      · exact absurd w hn
      · rw [hd] at w; cases w
      · rw [hd] at w; cases w
theorem asideX {D : Addr} {us : List V} {Za Ha Zb Hb : Hp} (x : Ex Za Ha Zb Hb) (hd : Ha D = some (.lst us)) (hz : Za D = none) : Zb D = none := by
  cases zz : Zb D with
  | none => rfl
  | some u =>
    rcases x.new D u zz with w | w | ⟨_, w⟩
    · rw [hz] at w; cases w
    · rw [hd] at w; cases w
    · rw [hd] at w; cases w
theorem EvD.lc2 {K : PySem.W.Frag} {vs vs1 : List Nat} {u u1 : Tg} {ts ts1 : ET} {fe : EF} {fi fi1 : EI} (hvs : ∀ i ∈ vs1, i ∈ vs) :
    EvD K (tLc2 (cI K fi) (cG K vs u) (cT K ts) (cI K fi1) (cG K vs1 u1) (cT K ts1) (cF K fe) vs vs1) (dLc2 vs u ts fi1 vs1 u1 ts1 fe fi) := fun σ H Z e e' A d Q o q k => by
  unfold dLc2 at q
  obtain ⟨⟨l, e1⟩, q1, q⟩ := Option.bind_eq_some_iff.mp q
  obtain ⟨⟨res, e2⟩, q2, q⟩ := Option.bind_eq_some_iff.mp q
  dsimp only at q2 q
  split at q
  · rename_i hlen
    cases q
    refine ⟨Z, e, e1, A, l, o, q1, fun Z1 H1 A1 J s1 o1 b1 it => fun D hD => ?_⟩
    have dA : D ∈ A ∨ H D = none := s1.nn hD
    obtain ⟨Aw, ow, sw⟩ := o1.wipe vs
    have dAw : D ∉ Aw := fun z => by
      obtain ⟨w, hw⟩ := Re.there _ _ _ o1.re D (sw D z)
      rw [hD] at hw; cases hw
    have dZ : Z1 D = none := o1.zh.free hD
    refine ⟨fun i m H' => m = l.length - i ∧ i ≤ l.length ∧ ∃ Z' e0 A' acc vacc rest, Stp A Z H Z' H' ∧ Same Z1 Z' ∧ Ok K Z' H' (wipe σ vs) e0 A' ∧ Sub A H A' ∧ H' D = some (.lst vacc) ∧ Rps K Z' acc vacc ∧ D ∉ A' ∧ Z' D = none ∧
      lc2E vs u ts fi1 vs1 u1 ts1 fe (l.drop i) e0 = some (rest, e') ∧ acc ++ rest = res ∧ (∀ i ∈ vs, ∀ d, e0[i]? ≠ some (some d)), ?_, ?_⟩
    · refine ⟨_, rfl, Nat.zero_le _, Z1, wipeE e1 vs, Aw, [], [], res, s1.side dA dZ, .refl _, ow.side dAw dZ, fun a ha => b1 a (sw a ha), upd_same, rfl, dAw, dZ, by simpa using q2, rfl, fun i hi d => wipeE_in hi⟩
    · rintro i m H' ⟨rfl, hi, Z', e0, A', acc, vacc, rest, w1, w2, w3, w4, w5, w6, w7, w8, w9, w10, w11⟩
      by_cases hlt : i < l.length
      · have ed : l.drop i = l[i] :: l.drop (i + 1) := List.drop_eq_getElem_cons hlt
        rw [ed] at w9
        unfold lc2E at w9
        obtain ⟨ea, g1, w9⟩ := Option.bind_eq_some_iff.mp w9
        obtain ⟨⟨b, eb⟩, g2, w9⟩ := Option.bind_eq_some_iff.mp w9
        obtain ⟨j1, j2⟩ := (it Z' H' i w2 w3.zh).1 l[i] (by simp [hlt])
        refine .inr ⟨j1, fun H2 => (i + 1 ≤ l.length ∧ ∃ Z' e0 A' acc vacc rest, Stp A Z H Z' H2 ∧ Same Z1 Z' ∧ Ok K Z' H2 (wipe σ vs) e0 A' ∧ Sub A H A' ∧ H2 D = some (.lst vacc) ∧ Rps K Z' acc vacc ∧ D ∉ A' ∧ Z' D = none ∧
          lc2E vs u ts fi1 vs1 u1 ts1 fe (l.drop (i + 1)) e0 = some (rest, e') ∧ acc ++ rest = res ∧ (∀ i ∈ vs, ∀ d, e0[i]? ≠ some (some d))), fun H2 h => ⟨l.length - (i + 1), by omega, rfl, h.1, h.2⟩, ?_⟩
        intro x H2 y
        obtain ⟨Zn, xn, y2⟩ := j2 x H2 y
        have w1 := w1.trans w4 (xn.stp (A := A'))
        have w2 := w2.trans xn.z
        have w8' : Zn D = none := asideX xn w5 w8
        have w5 := xn.h _ _ w5
        have w6 := Rps.mono xn.z _ _ w6
        have w8 := w8'
        refine ⟨Zn, e0, ea, A', l[i], w3.ex xn, y2, g1, fun σ2 Z2 H3 A2 s2 o2 b2 f2 => ?_⟩
        have lenσ : σ2.length = σ.length := by
          rw [← o2.re.len, asT_len u l[i] e0 ea g1, w3.re.len, wipe_length]
        have keepσ : ∀ j, j ∉ vs → σ2[j]? = σ[j]? := fun j hj => by rw [f2 j hj, wipe_out hj]
        have we : wipe σ2 vs = wipe σ vs := wipe_ext lenσ keepσ
        obtain ⟨d1, d2, d3⟩ := asideD s2 b2 w5 w7 w8
        refine ⟨we, ?_⟩
        have sA2 := w1.trans w4 s2
        have bA2 := Sub.trans w1 w4 b2
        refine ⟨Z2, ea, A2, b, eb, o2, g2, fun Z3 H4 A3 s3 o3 b3 => ?_⟩
        obtain ⟨d4, d5, d6⟩ := asideD s3 b3 d1 d2 d3
        have sA3 := sA2.trans bA2 s3
        have bA3 := Sub.trans sA2 bA2 b3
        have zz3 : Same Z1 Z3 := (w2.trans s2.z).trans s3.z
        have racc3 : Rps K Z3 acc vacc := Rps.mono (s2.z.trans s3.z) _ _ w6
        cases b with
        | true =>
          rw [if_pos rfl] at w9 ⊢
          obtain ⟨⟨l1, e4⟩, g3, w9⟩ := Option.bind_eq_some_iff.mp w9
          obtain ⟨⟨r1, e5⟩, g4, w9⟩ := Option.bind_eq_some_iff.mp w9
          obtain ⟨⟨rest', er⟩, g5, g6⟩ := Option.map_eq_some_iff.mp w9
          cases g6
          dsimp only at g4 g5
          refine ⟨Z3, eb, e4, A3, l1, o3, g3, fun Z4 H5 A4 J1 s4 o4 b4 it1 => ?_⟩
          obtain ⟨d7, d8, d9⟩ := asideD s4 b4 d4 d5 d6
          have sA4 := sA3.trans bA3 s4
          have bA4 := Sub.trans sA3 bA3 b4
          have zz4 := zz3.trans s4.z
          have racc4 : Rps K Z4 acc vacc := Rps.mono s4.z _ _ racc3
          obtain ⟨A5, o5, s5⟩ := o4.wipe vs1
          -- the inner walk
          refine ⟨fun j m H' => m = l1.length - j ∧ j ≤ l1.length ∧ ∃ Z' e0 A' acc' vacc' rest1, Stp A Z H Z' H' ∧ Same Z4 Z' ∧ Ok K Z' H' (wipe σ2 vs1) e0 A' ∧ Sub A H A' ∧ H' D = some (.lst vacc') ∧ Rps K Z' acc' vacc' ∧ D ∉ A' ∧ Z' D = none ∧
            lcE vs1 u1 ts1 fe (l1.drop j) e0 = some (rest1, e5) ∧ acc' ++ rest1 = acc ++ r1 ∧ (∀ i ∈ vs1, ∀ d, e0[i]? ≠ some (some d)), ?_, ?_⟩
          · exact ⟨_, rfl, Nat.zero_le _, Z4, wipeE e4 vs1, A5, acc, vacc, r1, sA4, .refl _, o5, fun a ha => bA4 a (s5 a ha), d7, racc4, fun z => d8 (s5 D z), d9, by simpa using g4, rfl, fun i hi d => wipeE_in hi⟩
          · rintro j m Hi ⟨rfl, hj, Zi, ei, Ai, acci, vacci, resti, v1, v2, v3, v4, v5, v6, v7, v8, v9, v10, v11⟩
            by_cases hlt1 : j < l1.length
            · have ed1 : l1.drop j = l1[j] :: l1.drop (j + 1) := List.drop_eq_getElem_cons hlt1
              rw [ed1] at v9
              unfold lcE at v9
              obtain ⟨ea1, h1, v9⟩ := Option.bind_eq_some_iff.mp v9
              obtain ⟨⟨c, eb1⟩, h2, v9⟩ := Option.bind_eq_some_iff.mp v9
              obtain ⟨t1, t2⟩ := (it1 Zi Hi j v2 v3.zh).1 l1[j] (by simp [hlt1])
              refine .inr ⟨t1, fun H2 => (j + 1 ≤ l1.length ∧ ∃ Z' e0 A' acc' vacc' rest1, Stp A Z H Z' H2 ∧ Same Z4 Z' ∧ Ok K Z' H2 (wipe σ2 vs1) e0 A' ∧ Sub A H A' ∧ H2 D = some (.lst vacc') ∧ Rps K Z' acc' vacc' ∧ D ∉ A' ∧ Z' D = none ∧
                lcE vs1 u1 ts1 fe (l1.drop (j + 1)) e0 = some (rest1, e5) ∧ acc' ++ rest1 = acc ++ r1 ∧ (∀ i ∈ vs1, ∀ d, e0[i]? ≠ some (some d))), fun H2 h => ⟨l1.length - (j + 1), by omega, rfl, h.1, h.2⟩, ?_⟩
              intro x1 Hx y1
              obtain ⟨Zm, xm, ym⟩ := t2 x1 Hx y1
              have v1 := v1.trans v4 (xm.stp (A := Ai))
              have v2 := v2.trans xm.z
              have v8' : Zm D = none := asideX xm v5 v8
              have v5 := xm.h _ _ v5
              have v6 := Rps.mono xm.z _ _ v6
              have v8 := v8'
              refine ⟨Zm, ei, ea1, Ai, l1[j], v3.ex xm, ym, h1, fun σ3 Z5 H6 A6 s6 o6 b6 f6 => ?_⟩
              have lenσ3 : σ3.length = σ2.length := by
                rw [← o6.re.len, asT_len u1 l1[j] ei ea1 h1, v3.re.len, wipe_length]
              have we1 : wipe σ3 vs1 = wipe σ2 vs1 := wipe_ext lenσ3 fun i hi => by rw [f6 i hi, wipe_out hi]
              obtain ⟨a1, a2, a3⟩ := asideD s6 b6 v5 v7 v8
              refine ⟨we1, ?_⟩
              have sA6 := v1.trans v4 s6
              have bA6 := Sub.trans v1 v4 b6
              refine ⟨Z5, ea1, A6, c, eb1, o6, h2, fun Z7 H8 A7 s7 o7 b7 => ?_⟩
              obtain ⟨a4, a5, a6⟩ := asideD s7 b7 a1 a2 a3
              have sA7 := sA6.trans bA6 s7
              have bA7 := Sub.trans sA6 bA6 b7
              have zz7 : Same Z4 Z7 := (v2.trans s6.z).trans s7.z
              have racc7 : Rps K Z7 acci vacci := Rps.mono (s6.z.trans s7.z) _ _ v6
              cases c with
              | true =>
                rw [if_pos rfl] at v9 ⊢
                obtain ⟨⟨py, ey⟩, h3, v9⟩ := Option.bind_eq_some_iff.mp v9
                obtain ⟨⟨restn, en⟩, h4, h5⟩ := Option.map_eq_some_iff.mp v9
                cases h5
                refine ⟨Z7, eb1, A7, py, ey, o7, h3, fun Z9 H10 v A9 s9 o9 b9 r9 => ?_⟩
                obtain ⟨a7, a8, a9⟩ := asideD s9 b9 a4 a5 a6
                have sA9 := sA7.trans bA7 s9
                have bA9 := Sub.trans sA7 bA7 b9
                have racc9 : Rps K Z9 acci vacci := Rps.mono s9.z _ _ racc7
                obtain ⟨A10, o10, s10⟩ := o9.wipe vs1
                rw [we1] at o10
                refine ⟨vacci, a7, ?_, hlt1, Z9, wipeE ey vs1, A10, acci ++ [py], vacci ++ [v], restn, sA9.side dA a9, zz7.trans s9.z, o10.side (fun z => a8 (s10 D z)) a9, fun a ha => bA9 a (s10 a ha), upd_same, racc9.append (Rps.singleton r9), fun z => a8 (s10 D z), a9, h4, ?_, fun i hi d => wipeE_in hi⟩
                · rw [← racc9.length]
                  have hz := hlen.1
                  rw [← w10] at hz
                  have hz2 := congrArg List.length v10
                  simp only [List.length_append, List.length_cons] at hz hz2
                  omega
                · rw [← v10]
                  simp
              | false =>
                rw [if_neg (show ¬ (false = true) by decide)] at v9 ⊢
                obtain ⟨A10, o10, s10⟩ := o7.wipe vs1
                rw [we1] at o10
                exact ⟨hlt1, Z7, wipeE eb1 vs1, A10, acci, vacci, resti, sA7, zz7, o10, fun a ha => bA7 a (s10 a ha), a4, racc7, fun z => a5 (s10 D z), a6, v9, v10, fun i hi d => wipeE_in hi⟩
            · have ej : j = l1.length := by omega
              subst ej
              rw [List.drop_length] at v9
              unfold lcE at v9
              cases v9
              refine .inl ⟨(it1 Zi Hi _ v2 v3.zh).2 rfl, hlt, ?_⟩
              rw [List.append_nil] at v10
              subst v10
              obtain ⟨A10, o10, s10⟩ := v3.wipe vs
              have ww : wipe (wipe σ2 vs1) vs = wipe σ vs := wipe_ext (by rw [wipe_length, lenσ]) fun i hi => by rw [wipe_out fun z => hi (hvs i z), keepσ i hi]
              rw [ww] at o10
              refine ⟨Zi, wipeE e5 vs, A10, acc ++ r1, vacci, rest', v1, zz4.trans v2, o10, fun a ha => v4 a (s10 a ha), v5, v6, fun z => v7 (s10 D z), v8, g5, ?_, fun i hi d => wipeE_in hi⟩
              rw [← w10]
              simp
        | false =>
          rw [if_neg (show ¬ (false = true) by decide)] at w9 ⊢
          obtain ⟨A5, o5, s5⟩ := o3.wipe vs
          rw [we] at o5
          exact ⟨hlt, Z3, wipeE eb vs, A5, acc, vacc, rest, sA3, zz3, o5, fun a ha => bA3 a (s5 a ha), d4, racc3, fun z => d5 (s5 D z), d6, w9, w10, fun i hi d => wipeE_in hi⟩
      · have e0' : i = l.length := by omega
        subst e0'
        rw [List.drop_length] at w9
        unfold lc2E at w9
        cases w9
        refine .inl ⟨(it Z' H' _ w2 w3.zh).2 rfl, ?_⟩
        rw [List.append_nil] at w10
        subst w10
        have re : Re K Z' H' e' σ A' := by
          refine Re.agree w3.re (by rw [wipe_length]) fun j d hj => ?_
          have nj : j ∉ vs := fun z => w11 j z d hj
          rw [wipe_out nj]
        refine k Z' H' (.ref D) A' [D] w1 ⟨w3.zh, re, w3.nd, w3.off⟩ ⟨D, vacc, rfl, rfl, w5, w6⟩ (List.nodup_cons.mpr ⟨w7, w3.nd⟩) (fun a ha => by rw [List.mem_singleton.mp ha]; exact w8) fun a ha => ?_
        rcases List.mem_cons.mp ha with z | z
        · rw [z]; exact dA
        · exact w4 a z
  · cases q
section
variable {X : Cx} {elt tg iter tg1 iter1 : Expr} {ifs ifs1 : List Expr} {scope : Scope} {pos : Pos} {u u1 : Tg} {ts ts1 : ET} {fe : EF} {fi fi1 : EI}
theorem vd_lc2 (own : List (Str × Nat)) (vs1 : List Nat) (hc : X.calm = true) (hN : X.N.Nodup) (ok : BlkOk X.N X.env.scope scope own) (hv : ∀ i ∈ vs1, i ∈ own.map (·.2)) (hi : VI X tg iter fi)
    (hg : ∀ (s : Shared) (H : Hp) (C : Addr) (cl : List (Str × Addr)) (fp : List Addr), VG (X.blk s H scope (compEnvC scope cl C X.env) fp) (own.map (·.2)) tg u)
    (ht : ∀ (s : Shared) (H : Hp) (C : Addr) (cl : List (Str × Addr)) (fp : List Addr), VTs (X.blk s H scope (compEnvC scope cl C X.env) fp) ifs ts)
    (hi1 : ∀ (s : Shared) (H : Hp) (C : Addr) (cl : List (Str × Addr)) (fp : List Addr), VI (X.blk s H scope (compEnvC scope cl C X.env) fp) tg1 iter1 fi1)
    (hg1 : ∀ (s : Shared) (H : Hp) (C : Addr) (cl : List (Str × Addr)) (fp : List Addr), VG (X.blk s H scope (compEnvC scope cl C X.env) fp) vs1 tg1 u1)
    (ht1 : ∀ (s : Shared) (H : Hp) (C : Addr) (cl : List (Str × Addr)) (fp : List Addr), VTs (X.blk s H scope (compEnvC scope cl C X.env) fp) ifs1 ts1)
    (he : ∀ (s : Shared) (H : Hp) (C : Addr) (cl : List (Str × Addr)) (fp : List Addr), VF (X.blk s H scope (compEnvC scope cl C X.env) fp) elt fe)
    (hs : ∀ x, foldedSetIterable iter X.env x = pure x := by intro _; rfl) (hs1 : ∀ env x, foldedSetIterable iter1 env x = pure x := by intro _ _; rfl) :
    VD X (.ListComp elt [⟨tg, iter, ifs, 0⟩, ⟨tg1, iter1, ifs1, 0⟩] scope pos) (dLc2 (own.map (·.2)) u ts fi1 vs1 u1 ts1 fe fi) :=
  ⟨_, pe_lc2 (g := cG X.K (own.map (·.2)) u) (tt := cT X.K ts) (wi1 := cI X.K fi1) (g1 := cG X.K vs1 u1) (tt1 := cT X.K ts1) (te := cF X.K fe) hc hN hi.pi ok hv (fun s H C cl fp => (hg s H C cl fp).pg) (fun s H C cl fp => (ht s H C cl fp).out)
    (fun s H C cl fp => (hi1 s H C cl fp).pi) (fun s H C cl fp => (hg1 s H C cl fp).pg) (fun s H C cl fp => (ht1 s H C cl fp).out) (fun s H C cl fp => (he s H C cl fp).pe) hs hs1, EvD.lc2 hv⟩
theorem vs_setLc2 {W : List Nat} {i : Nat} {y : Str} {py spos : Pos} (own : List (Str × Nat)) (vs1 : List Nat) (hc : X.calm = true) (hN : X.N.Nodup) (hy : X.N[i]? = some y) (hyl : X.env.scope.names.lookup y = some .local) (hw : i ∈ W)
    (hsw : swapsWith (.ListComp elt [⟨tg, iter, ifs, 0⟩, ⟨tg1, iter1, ifs1, 0⟩] scope pos) (some (.Name y py)) spos.line X.env = pure true) (ok : BlkOk X.N X.env.scope scope own) (hv : ∀ i ∈ vs1, i ∈ own.map (·.2)) (hi : VI X tg iter fi)
    (hg : ∀ (s : Shared) (H : Hp) (C : Addr) (cl : List (Str × Addr)) (fp : List Addr), VG (X.blk s H scope (compEnvC scope cl C X.env) fp) (own.map (·.2)) tg u)
    (ht : ∀ (s : Shared) (H : Hp) (C : Addr) (cl : List (Str × Addr)) (fp : List Addr), VTs (X.blk s H scope (compEnvC scope cl C X.env) fp) ifs ts)
    (hi1 : ∀ (s : Shared) (H : Hp) (C : Addr) (cl : List (Str × Addr)) (fp : List Addr), VI (X.blk s H scope (compEnvC scope cl C X.env) fp) tg1 iter1 fi1)
    (hg1 : ∀ (s : Shared) (H : Hp) (C : Addr) (cl : List (Str × Addr)) (fp : List Addr), VG (X.blk s H scope (compEnvC scope cl C X.env) fp) vs1 tg1 u1)
    (ht1 : ∀ (s : Shared) (H : Hp) (C : Addr) (cl : List (Str × Addr)) (fp : List Addr), VTs (X.blk s H scope (compEnvC scope cl C X.env) fp) ifs1 ts1)
    (he : ∀ (s : Shared) (H : Hp) (C : Addr) (cl : List (Str × Addr)) (fp : List Addr), VF (X.blk s H scope (compEnvC scope cl C X.env) fp) elt fe)
    (hs : ∀ x, foldedSetIterable iter X.env x = pure x := by intro _; rfl) (hs1 : ∀ env x, foldedSetIterable iter1 env x = pure x := by intro _ _; rfl) :
    VS X W (.Assign [.Name y py] (.ListComp elt [⟨tg, iter, ifs, 0⟩, ⟨tg1, iter1, ifs1, 0⟩] scope pos) spos) (sSet i (dLc2 (own.map (·.2)) u ts fi1 vs1 u1 ts1 fe fi)) := by
  refine ⟨_, ps_setLc2 (g := cG X.K (own.map (·.2)) u) (tt := cT X.K ts) (wi1 := cI X.K fi1) (g1 := cG X.K vs1 u1) (tt1 := cT X.K ts1) (te := cF X.K fe) hc hN hy hyl hsw hi.pi ok hv (fun s H C cl fp => (hg s H C cl fp).pg) (fun s H C cl fp => (ht s H C cl fp).out)
    (fun s H C cl fp => (hi1 s H C cl fp).pi) (fun s H C cl fp => (hg1 s H C cl fp).pg) (fun s H C cl fp => (ht1 s H C cl fp).out) (fun s H C cl fp => (he s H C cl fp).pe) hs hs1, fun σ H Z e A o E ok q c => ?_⟩
  unfold sSet at q
  obtain ⟨⟨d, e1⟩, q1, q2⟩ := Option.bind_eq_some_iff.mp q
  dsimp only at q2
  split at q2
  · rename_i hl
    cases q2
    refine EvD.lc2 hv _ ok q1 fun Z' H' v A' F s' o' r nd off b => ?_
    obtain ⟨A2, w1, w2⟩ := o'.set r nd off hl
    exact c _ Z' H' A2 s' w1 (fun a ha => b a (w2 a ha)) (.set hw)
  · cases q2
end
end VL
end

section
set_option Elab.async false
set_option linter.all false
set_option maxRecDepth 100000
namespace VL
open PySem PySem.Spec PyProof.Rows L2
open PySem.W (EachIs SortsAt sortVals sortingHeap)

/-! ### * of a list and a number; int(x); sum -/
def pRep : P → P → Option P
  | .lst l, .int k => if (-(2 ^ 63) ≤ k ∧ k < 2 ^ 63) ∧ l.length * k.toNat ≤ sizeLine then some (.lst (List.replicate k.toNat l).flatten) else none
  | _, _ => none
theorem Rps.rep {K : PySem.W.Frag} {Z : Hp} {l : List P} {vs : List V} (h : Rps K Z l vs) : ∀ n : Nat, Rps K Z (List.replicate n l).flatten (List.replicate n vs).flatten
  | 0 => rfl
  | n + 1 => by
    rw [List.replicate_succ, List.replicate_succ, List.flatten_cons, List.flatten_cons]
    exact h.append (Rps.rep h n)
theorem ov_rep {K : PySem.W.Frag} : OpV K rRep pRep := fun H Z x y p q z Q s h1 h2 e k => by
  unfold pRep at e
  split at e
  · split at e
    · rename_i l j hl
      cases e
      obtain ⟨a, vs, e1, e2, e3⟩ := h1
      cases h2
      subst e1
      refine ⟨a, j, vs, rfl, rfl, e2, hl.1.1, hl.1.2, by rw [← e3.length]; exact hl.2, fun p hp => ?_⟩
      exact k _ _ _ (Ex.lay s hp) ⟨p, _, rfl, upd_same, Rps.mono (Ex.lay s hp).z _ _ (e3.rep _)⟩
    · cases e
  · cases e
def pMul2 (p q : P) : Option P := (pMul p q).or (pRep p q)
theorem opr_mul2 {X : Cx} : Opr X (binaryOp .Mult) pMul2 := by
  obtain ⟨r, h1, h2⟩ := opr_mul (X := X)
  exact ⟨_, OpR.or h1 op_rep, OpV.or h2 ov_rep⟩
def gInt : List P → Option P
  | [.int i] => some (.int i)
  | [.bl k] => some (.int (if k then 1 else 0))
  | _ => none
theorem cal_int {X : Cx} : Cal X (.type "int") gInt := ⟨_, call_int1, fun H Z vs ps z Q s h e k => by
  unfold gInt at e
  split at e
  · cases e
    obtain ⟨v, h1, h2⟩ := rrs1 h
    cases h2
    exact .inl ⟨_, h1, k Z H _ (.refl s) rfl⟩
  · cases e
    obtain ⟨v, h1, h2⟩ := rrs1 h
    cases h2
    exact .inr ⟨_, h1, k Z H _ (.refl s) rfl⟩
  · cases e⟩
def gSum : List P → Option P
  | [.lst l] => (P.ints l).map fun ns => .int ns.sum
  | _ => none
theorem cal_sum {X : Cx} (hc : X.calm = true) : Cal X (.builtin "sum") gSum := ⟨_, cr_sum hc, fun H Z vs ps z Q s h e k => by
  unfold gSum at e
  split at e
  · obtain ⟨ns, e1, e2⟩ := Option.map_eq_some_iff.mp e
    subst e2
    obtain ⟨v, h1, h2⟩ := rrs1 h
    obtain ⟨a, us, e3, h3, h4⟩ := h2
    subst e3
    rw [h4.intsV e1] at h3
    exact ⟨a, ns, h1, SqL.of h3, k Z H _ (.refl s) rfl⟩
  · cases e⟩
/-! ### xs.remove(x), x in xs -/
def rRemD (K : PySem.W.Frag) : V → List V → Hp → VK → Prop := fun x xs H Q => ∃ (l : Addr) (us : List V) (y : V) (ds : List PyData) (d : PyData) (j : Nat), x = .ref l ∧ xs = [y] ∧ H l = some (.lst us) ∧ DpAll K H us ds ∧ Dp K H y d ∧ PyData.canLayAll0 ds = true ∧ d.canLay0 = true ∧ d.depth ≤ 60 ∧ ds.findIdx? (fun z => PyData.eqv z d) = some j ∧ Q .non (upd H l (.lst (us.eraseIdx j)))
theorem vals_erase : ∀ {us : List V} {its : List Value} (j : Nat), Vals us its → Vals (us.eraseIdx j) (its.eraseIdx j)
  | _, _, _, .nil => .nil
  | _, _, 0, .cons r t => t
  | _, _, j + 1, .cons r t => .cons r (vals_erase j t)
theorem mt_removeD {X : Cx} (hu : X.A.units + 64 < cLine) : MtR X "list.remove" (rRemD X.K) := by
  intro pins s σ H x xs v us Q I rx rxs h
  obtain ⟨l, ws, y, ds, d, j, rfl, rfl, hl, hds, hd, c1, c2, dep, hj, q⟩ := h
  cases rx
  obtain ⟨u, rfl, ry⟩ := vals1 rxs
  obtain ⟨hz, its, n, rv, ho⟩ := I.hok l _ hl
  obtain ⟨as, r1⟩ := Dp.readsAll I ds ws its hds rv
  obtain ⟨bs, r2⟩ := Dp.reads I d y u hd ry
  have p1 : PyData.plainAll ds = true := by
    have : (PyData.list ds).plain = true := PyData.plain_of_canLay0 _ (by simpa [PyData.canLay0] using c1)
    simpa [PyData.plain] using this
  refine PySem.SeqAt.remove_list_data (vs := its.toArray) (xs := ds) (d := d) (j := j) ⟨_, ho, rfl, n, rfl⟩ (by simpa using r1) r2 p1 (PyData.plain_of_canLay0 _ c2) (by have := Nat.min_le_right (PyData.depthAll ds) d.depth; omega) hj (by rw [List.size_toArray, ← rv.length]; exact hz) ?_
  refine ⟨.non, _, I.lset (its' := its.eraseIdx j) hl ho ?_ (vals_erase j rv) ?_, rfl, q⟩
  · show its.toArray.eraseIdxIfInBounds j = _
    rw [List.eraseIdxIfInBounds_toArray]
  · exact Nat.le_trans (List.length_eraseIdx_le ..) hz
def gRem : D → List P → Option (P × D)
  | .lst l, [p] => if (PyData.canLayAll0 (P.ds l) && (p.d.canLay0 && decide (p.d.depth ≤ 60))) = true then ((P.ds l).findIdx? fun z => PyData.eqv z p.d).map fun j => (.non, .lst (l.eraseIdx j)) else none
  | _, _ => none
theorem Rps.erase {K : PySem.W.Frag} {Z : Hp} : ∀ {l : List P} {vs : List V} (j : Nat), Rps K Z l vs → Rps K Z (l.eraseIdx j) (vs.eraseIdx j)
  | [], _, _, h => by rw [show _ = _ from h]; exact rfl
  | p :: l, _, 0, ⟨v, r, h1, h2, h3⟩ => by rw [h1]; exact h3
  | p :: l, _, j + 1, ⟨v, r, h1, h2, h3⟩ => by rw [h1]; exact ⟨v, _, rfl, h2, Rps.erase j h3⟩
theorem mw_remove {K : PySem.W.Frag} : MtW K (rRemD K) gRem := fun H Z a vs d d' ps z s h za hv q => by
  unfold gRem at q
  split at q
  · rename_i l p
    split at q
    · rename_i c
      rw [Bool.and_eq_true, Bool.and_eq_true] at c
      obtain ⟨j, q1, q2⟩ := Option.map_eq_some_iff.mp q
      cases q2
      obtain ⟨b, us, e1, _, e3, e4⟩ := h
      cases e1
      obtain ⟨v, r, e5, e6, e7⟩ := hv
      rw [show r = [] from e7] at e5
      subst e5
      exact ⟨.lst (us.eraseIdx j), ⟨a, _, rfl, rfl, upd_same, e4.erase j⟩, fun Q k => ⟨a, us, v, P.ds l, p.d, j, rfl, rfl, e3, Rps.dp s l us e4 c.1, Rp.dp s p v e6 c.2.1, c.1, c.2.1, of_decide_eq_true c.2.2, q1, k .non rfl⟩⟩
    · cases q
  · cases q
/-! ### xs.pop(i) -/
def gPopI : D → List P → Option (P × D)
  | .lst l, [.int i] => if -(2 ^ 63) ≤ i ∧ i < 2 ^ 63 then (seqIndex? i l.length).bind fun k => (l[k]?).map fun y => (y, .lst (l.eraseIdx k)) else none
  | _, _ => none
theorem mw_popI {K : PySem.W.Frag} : MtW K rPopAt gPopI := fun H Z a vs d d' ps z s h za hv q => by
  unfold gPopI at q
  split at q
  · rename_i l i
    split at q
    · rename_i c
      obtain ⟨j, q1, q2⟩ := Option.bind_eq_some_iff.mp q
      obtain ⟨y, q3, q4⟩ := Option.map_eq_some_iff.mp q2
      cases q4
      obtain ⟨b, us, e1, _, e3, e4⟩ := h
      cases e1
      obtain ⟨v, r, e5, e6, e7⟩ := hv
      rw [show r = [] from e7] at e5
      cases e6
      subst e5
      obtain ⟨w, w1, w2⟩ := e4.get q3
      exact ⟨.lst (us.eraseIdx j), ⟨a, _, rfl, rfl, upd_same, e4.erase j⟩, fun Q k => ⟨a, us, i, j, w, rfl, rfl, e3, c.1, c.2, by rw [← e4.length]; exact q1, w1, k w w2⟩⟩
    · cases q
  · cases q
/-! ### d.pop(k), k in d -/
def rPopD : V → List V → Hp → VK → Prop := fun x xs H Q => ∃ (a : Addr), x = .ref a ∧ ((∃ (kvs : List (Key × V)) (k : Key) (v : V), xs = [kV k] ∧ H a = some (.dK kvs) ∧ valV kvs k = some v ∧ Q v (upd H a (.dK (dropK kvs k)))) ∨
  ∃ (kvs : List (List Key × V)) (k : List Key) (b : Addr) (v : V), xs = [.ref b] ∧ H a = some (.dT kvs) ∧ H b = some (.tup (k.map kV)) ∧ valV kvs k = some v ∧ Q v (upd H a (.dT (dropK kvs k))))
theorem mt_popD {X : Cx} (hu : X.A.units + 1 < cLine) : MtR X "dict.pop" rPopD := by
  intro pins s σ H x xs v us Q I rx rxs h
  obtain ⟨a, rfl, h | h⟩ := h
  · obtain ⟨kvs, k, v0, rfl, ha, hv, q⟩ := h
    cases rx
    obtain ⟨u, rfl, ru⟩ := vals1 rxs
    exact d_pop I ha ru hv (.inl rfl) fun w' s' I' rw' => ⟨v0, _, I', rw', q⟩
  · obtain ⟨kvs, k, b, v0, rfl, ha, hb, hv, q⟩ := h
    cases rx
    obtain ⟨u, rfl, ru⟩ := vals1 rxs
    cases ru
    obtain ⟨z, hd, xs', rel, dd⟩ := dt_of I.hok ha
    have hz : xs'.length ≤ sizeLine := by rw [← Paired.length rel]; exact z
    have r := rel.val k
    rw [hv] at r
    obtain ⟨p, hp, rp⟩ : ∃ p, atKey xs' k = some p ∧ RelV v0 p.2 := by
      cases e : atKey xs' k with
      | none => rw [e] at r; exact (show False from r).elim
      | some p => rw [e] at r; exact ⟨p, rfl, r⟩
    refine call_pop_heap (knd := tupleKind (mixKind X.prog X.w)) (.inl rfl) (PySem.F.args_dict_pop_2 _ _) (tupleKind_room_in1 hu) (key_of I.hok hb) hd dd hp (fun h' dd' hs => ?_) hz
    obtain ⟨o, es, ep, hq, h2, h3, h4, _, h5⟩ := dd'
    have I2 : ∀ tk, Inv X pins σ (upd H a (.dT (dropK kvs k))) { s with heap := h', toks := tk } := fun tk =>
      d_write I (by rw [ha]; exact True.intro) hs ⟨o, hq⟩ ⟨Nat.le_trans (dropK_le kvs k) z, hd, _, (DX.KT_drop k rel).keeps (fun c ys ec => (by rw [upd_ne (ne_of ec ha (fun z => nomatch z))]; exact ec)), o, es, ep, hq, h2, h3, h4, h5⟩
    exact ⟨v0, _, I2 _, rp, q⟩
def dropL {κ : Type} [DecidableEq κ] : List κ → List P → κ → List P
  | k :: ks, p :: l, j => if k = j then dropL ks l j else p :: dropL ks l j
  | _, _, _ => []
def dropKs {κ : Type} [DecidableEq κ] : List κ → κ → List κ
  | [], _ => []
  | k :: ks, j => if k = j then dropKs ks j else k :: dropKs ks j
theorem drop_ok {K : PySem.W.Frag} {Z : Hp} {κ : Type} [DecidableEq κ] (j : κ) : ∀ (kvs : List (κ × V)) (l : List P), Rps K Z l (kvs.map (·.2)) → (dropK kvs j).map (·.1) = dropKs (kvs.map (·.1)) j ∧ Rps K Z (dropL (kvs.map (·.1)) l j) ((dropK kvs j).map (·.2))
  | [], l, h => by
    have : l = [] := by
      have e := h.length
      simpa using e
    subst this
    exact ⟨rfl, rfl⟩
  | (k, u) :: kvs, [], h => by
    have e := h.length
    simp at e
  | (k, u) :: kvs, p :: l, ⟨v, r, h1, h2, h3⟩ => by
    rw [List.map_cons] at h1
    injection h1 with e1 e2
    subst e1
    subst e2
    obtain ⟨i1, i2⟩ := drop_ok j kvs l h3
    by_cases q : k = j
    · have z1 : dropK ((k, u) :: kvs) j = dropK kvs j := List.filter_cons_of_neg (by simp [q])
      rw [z1]
      refine ⟨?_, ?_⟩
      · rw [i1]; simp [dropKs, q]
      · simp only [List.map_cons, dropL, if_pos q]; exact i2
    · have z1 : dropK ((k, u) :: kvs) j = (k, u) :: dropK kvs j := List.filter_cons_of_pos (by simp [q])
      rw [z1]
      refine ⟨?_, ?_⟩
      · rw [List.map_cons, i1]; simp [dropKs, q]
      · simp only [List.map_cons, dropL, if_neg q]; exact ⟨u, _, rfl, h2, i2⟩
def gPopD : D → List P → Option (P × D)
  | .dK ks l, [p] => p.key.bind fun k => (look ks l k).map fun y => (y, .dK (dropKs ks k) (dropL ks l k))
  | .dT ks l, [p] => p.tkey.bind fun k => (look ks l k).map fun y => (y, .dT (dropKs ks k) (dropL ks l k))
  | _, _ => none
theorem mw_popD {K : PySem.W.Frag} : MtW K rPopD gPopD := fun H Z a vs d d' ps z s h za hv q => by
  unfold gPopD at q
  split at q
  · rename_i ks l p
    obtain ⟨k, q1, q2⟩ := Option.bind_eq_some_iff.mp q
    obtain ⟨y, q3, q4⟩ := Option.map_eq_some_iff.mp q2
    cases q4
    obtain ⟨b, kvs, e1, _, e3, e4, e5⟩ := h
    cases e1
    obtain ⟨v, r, f1, f2, f3⟩ := hv
    rw [show r = [] from f3] at f1
    subst f1
    subst e4
    have lv := look_val k kvs l e5
    rw [q3] at lv
    obtain ⟨w, w1, w2⟩ := lv
    obtain ⟨d1, d2⟩ := drop_ok k kvs l e5
    exact ⟨.dK (dropK kvs k), ⟨a, _, rfl, rfl, upd_same, d1, d2⟩, fun Q kk => ⟨a, rfl, .inl ⟨kvs, k, w, by rw [f2.key q1], e3, w1, kk w w2⟩⟩⟩
  · rename_i ks l p
    obtain ⟨k, q1, q2⟩ := Option.bind_eq_some_iff.mp q
    obtain ⟨y, q3, q4⟩ := Option.map_eq_some_iff.mp q2
    cases q4
    obtain ⟨b, kvs, e1, _, e3, e4, e5⟩ := h
    cases e1
    obtain ⟨v, r, f1, f2, f3⟩ := hv
    rw [show r = [] from f3] at f1
    subst f1
    subst e4
    have lv := look_val k kvs l e5
    rw [q3] at lv
    obtain ⟨w, w1, w2⟩ := lv
    obtain ⟨d1, d2⟩ := drop_ok k kvs l e5
    obtain ⟨c, hc, hb⟩ := Rr.tkeyV s (Rp.rr s p v f2) q1
    subst hc
    exact ⟨.dT (dropK kvs k), ⟨a, _, rfl, rfl, upd_same, d1, d2⟩, fun Q kk => ⟨a, rfl, .inr ⟨kvs, k, c, w, rfl, e3, hb, w1, kk w w2⟩⟩⟩
  · cases q
/-! ### the keys of a dict -/
def Key.p : Key → P
  | .inl i => .int i
  | .inr x => .str x
def P.dkeys : P → Option (List P)
  | .dK ks _ => some (ks.map Key.p)
  | .dT ks _ => some (ks.map fun k => .tup true (k.map Key.p))
  | _ => none
theorem Ex.take {Z H : Hp} {b : Addr} {vs : List V} (s : Same Z H) (hb : H b = some (.tup vs)) : Ex Z H (upd Z b (.tup vs)) H := by
  refine ⟨fun c u e => ?_, .refl _, fun c u e => ?_, fun c u e => ?_⟩
  · by_cases q : c = b
    · subst q
      have := s _ _ e
      rw [hb] at this
      cases this
      exact upd_same
    · rw [upd_ne q]; exact e
  · by_cases q : c = b
    · subst q; rw [upd_same] at e; cases e; exact hb
    · rw [upd_ne q] at e; exact s _ _ e
  · by_cases q : c = b
    · subst q; exact .inr (.inr ⟨vs, hb⟩)
    · rw [upd_ne q] at e; exact .inl e
theorem Rps.keyV {K : PySem.W.Frag} {Z : Hp} : ∀ ks : List Key, Rps K Z (ks.map Key.p) (ks.map kV)
  | [] => rfl
  | .inl i :: ks => ⟨_, _, rfl, rfl, Rps.keyV ks⟩
  | .inr x :: ks => ⟨_, _, rfl, rfl, Rps.keyV ks⟩
/-- tuples of keys, taken in -/
theorem take_keys {K : PySem.W.Frag} {H : Hp} : ∀ (ks : List (List Key)) (bs : List Addr) (Z : Hp), Same Z H → Paired (fun k b => H b = some (.tup (k.map kV))) ks bs → ∃ Z', Ex Z H Z' H ∧ Rps K Z' (ks.map fun k => .tup true (k.map Key.p)) (bs.map V.ref)
  | [], _, Z, s, h => by
    cases h
    exact ⟨Z, .refl s, rfl⟩
  | k :: ks, _, Z, s, h => by
    cases h with
    | cons h1 h2 =>
      rename_i b bs
      obtain ⟨Z', x1, r1⟩ := take_keys ks bs (upd Z b (.tup (k.map kV))) (Ex.take s h1).zh h2
      exact ⟨Z', (Ex.take s h1).trans x1, .ref b, bs.map V.ref, rfl, ⟨b, k.map kV, rfl, TpOk.of (x1.z _ _ upd_same), Rps.keyV k⟩, r1⟩
theorem pair_keys {H : Hp} : ∀ {kvs : List (List Key × V)} {xs : List (List Key × Addr × Value)}, KT H kvs xs → Paired (fun (k : List Key) (b : Addr) => H b = some (.tup (k.map kV))) (kvs.map (·.1)) (xs.map (·.2.1))
  | _, _, .nil => .nil
  | _, _, .cons h t => .cons h.2.1 (pair_keys t)
section
variable {X : Cx} {pins : List (Addr × Obj)} {σ : L2.St} {H Z : Hp} {s : Shared} {A : Around} {E : Value → Shared → Prop}
theorem vals_at {us : List V} {its : List Value} (hl : its.length = us.length) (h : ∀ (j : Nat) (v : Value) (u : V), its[j]? = some v → us[j]? = some u → RelV u v) : Vals us its := by
  induction us generalizing its with
  | nil =>
    cases its with
    | nil => exact .nil
    | cons _ _ => simp at hl
  | cons u us ih =>
    cases its with
    | nil => simp at hl
    | cons v its => exact .cons (h 0 v u rfl rfl) (ih (by simpa using hl) fun j v' u' h1 h2 => h (j + 1) v' u' (by simpa using h1) (by simpa using h2))
theorem collect_keys {p : P} {a : Addr} {l : List P} {R : List Value → Shared → Prop} (hh : A.handled = none) (I : Inv X pins σ H s) (sm : Same Z H) (rr : Rr X.K Z H p (.ref a)) (hk : p.dkeys = some l)
    (k : ∀ Z' us its h' tk, Ex Z H Z' H → Vals us its → Rps X.K Z' l us → its.length ≤ sizeLine → Inv X pins σ H { s with heap := h', toks := tk } → R its { s with heap := h', toks := tk }) :
    wpAny (model X.prog X.w) A (collect (.ref a)) R E s := by
  cases p with
  | dK ks m =>
    cases hk
    obtain ⟨a', kvs, e1, hd, e2, _⟩ := rr
    cases e1
    obtain ⟨z, lo, vs, rel, dd⟩ := dk_rd I.hok hd
    obtain ⟨ep, hat⟩ := dd.dictAt
    have h16 : vs.length ≤ sizeLine := by rw [← rel.length]; exact z
    refine PySem.W.kdu_collect (PySem.W.kdl_dict (knd := mixKind X.prog X.w) (kvs := vs) (ep := ep) lo) hh hat h16 fun h' tk acc hkeep hacc => ?_
    have hkeys : vs.map (·.1) = ks := rel.keys.symm.trans e2
    have hlen : acc.toList.length = ks.length := by rw [Array.length_toList, hacc.1, ← hkeys, List.length_map]
    refine k Z (ks.map kV) acc.toList h' tk (.refl sm) (vals_at (by rw [hlen, List.length_map]) fun j v u hv hu => ?_) (Rps.keyV ks) (by rw [hlen, ← hkeys, List.length_map]; exact h16) (I.kept hkeep)
    obtain ⟨k0, x, g1, g2⟩ := hacc.2 j v (by rw [← Array.getElem?_toList]; exact hv)
    have g3 : ks[j]? = some k0 := by rw [← hkeys, List.getElem?_map, g1]; rfl
    rw [List.getElem?_map, g3] at hu
    cases hu
    rcases keyIs_shape g2 with ⟨i, t, rfl, rfl⟩ | ⟨y, t, rfl, rfl⟩
    · exact ⟨t, rfl⟩
    · exact ⟨t, rfl⟩
  | dT ks m =>
    cases hk
    obtain ⟨a', kvs, e1, hd, e2, _⟩ := rr
    cases e1
    obtain ⟨z, lo, xs, rel, dd⟩ := dt_rd I.hok hd
    obtain ⟨es, ep, hraw, hsz, hes⟩ := dd.raw
    have h16 : es.size ≤ sizeLine := by rw [hsz, ← Paired.length rel]; exact z
    refine PySem.W.kdu_collect (KdlSrc.rawDict (es := es) (ep := ep) lo) hh hraw h16 fun h' tk acc hkeep hacc => ?_
    have hpair : Paired (fun (k : List Key) (b : Addr) => H b = some (.tup (k.map kV))) ks (xs.map (·.2.1)) := by
      rw [← e2]
      exact pair_keys rel
    obtain ⟨Z', x1, r1⟩ := take_keys (K := X.K) ks (xs.map (·.2.1)) Z sm hpair
    have hl2 : acc.toList.length = xs.length := by rw [Array.length_toList, hacc.1, hsz]
    refine k Z' _ acc.toList h' tk x1 (vals_at (by rw [hl2, List.length_map, List.length_map]) fun j v u hv hu => ?_) r1 (by rw [hl2, ← hsz]; exact h16) (I.kept hkeep)
    obtain ⟨hi, g1⟩ := hacc.2 j v (by rw [← Array.getElem?_toList]; exact hv)
    obtain ⟨y, y1, y2, _⟩ := hes j hi
    rw [List.getElem?_map, List.getElem?_map, y1] at hu
    cases hu
    rw [g1, y2]
    rfl
  | _ => cases hk
end
/-- sorted(d) -/
def gSortD : List P → Option P
  | [p] => p.dkeys.bind fun l => if sortOk l = true then some (.lst (sortP l)) else none
  | _ => none
theorem dkeys_ref {K : PySem.W.Frag} {Z H : Hp} {p : P} {v : V} {l : List P} (h : Rr K Z H p v) (e : p.dkeys = some l) : ∃ a, v = .ref a := by
  cases p with
  | dK ks m => obtain ⟨a, _, e1, _⟩ := h; exact ⟨a, e1⟩
  | dT ks m => obtain ⟨a, _, e1, _⟩ := h; exact ⟨a, e1⟩
  | _ => cases e
theorem cal_sortD {X : Cx} (hc : X.calm = true) (hu : X.A.units + 64 < cLine) : Cal X (.builtin "sorted") gSortD := by
  refine ⟨rOf X.K gSortD, fun pins s σ H xs us Q I r h => ?_, cv_of⟩
  obtain ⟨Z, ps, z, sm, rr, e, k⟩ := h
  unfold gSortD at e
  split at e
  · obtain ⟨l, e1, e2⟩ := Option.bind_eq_some_iff.mp e
    split at e2
    · rename_i p ok
      cases e2
      obtain ⟨v, h1, h2⟩ := rrs1 rr
      obtain ⟨a, rfl⟩ := dkeys_ref h2 e1
      subst h1
      cases r with
      | cons r1 r2 =>
        cases r2
        cases r1
        refine sorted_from (collect_keys (I.ok.hd hc) I sm h2 e1 fun Z' us its h' tk x1 rv rp hL I1 => ?_)
        exact ⟨hL, sort_core hu I1 x1.zh rv rp ok hL fun Z2 H2 v x2 r2 => k Z2 H2 v (x1.trans x2) r2⟩
    · cases e2
  · cases e
def gSorted2 (ps : List P) : Option P := (gSortS ps).or (gSortD ps)
theorem CallR.or {X : Cx} {f : Value} {r r' : List V → Hp → VK → Prop} (h : CallR X f r) (h' : CallR X f r') : CallR X f (fun vs H Q => r vs H Q ∨ r' vs H Q) := fun pins s σ H xs us Q I rv q => q.elim (h pins s σ H xs us Q I rv) (h' pins s σ H xs us Q I rv)
theorem Cal.or {X : Cx} {f : Value} {g g' : List P → Option P} (h : Cal X f g) (h' : Cal X f g') : Cal X f (fun ps => (g ps).or (g' ps)) := by
  obtain ⟨r, h1, h2⟩ := h
  obtain ⟨r', h3, h4⟩ := h'
  refine ⟨_, CallR.or h1 h3, CallV.or h2 h4 fun ps z e => ?_⟩
  cases q : g ps with
  | none => rw [q] at e; exact .inr e
  | some y => rw [q] at e; exact .inl e
theorem cal_sorted2 {X : Cx} (hc : X.calm = true) (hu : X.A.units + 64 < cLine) : Cal X (.builtin "sorted") gSorted2 := Cal.or (cal_sortS hu) (cal_sortD hc hu)
end VL
end

section
set_option Elab.async false
set_option linter.all false
set_option maxRecDepth 100000
namespace VL
open PySem PySem.Spec PyProof.Rows L2

/-! ### calls by keywords, defaults among them; what is handed in is data -/
inductive Sx where
  | l (i : Nat) | r (i : Nat) | c (p : P) (v : V) (u : Value)
def sxP (s : List Sx) (ps qs : List P) : List P := s.map fun
  | .l i => ps.getD i .any
  | .r i => qs.getD i .any
  | .c p _ _ => p
def sxV (s : List Sx) (ps qs : List V) : List V := s.map fun
  | .l i => ps.getD i .non
  | .r i => qs.getD i .non
  | .c _ v _ => v
def sxU (s : List Sx) (ps qs : List Value) : List Value := s.map fun
  | .l i => ps.getD i .none
  | .r i => qs.getD i .none
  | .c _ _ u => u
/-- the defaults stand for their data -/
inductive SxOk (K : PySem.W.Frag) : List Sx → Prop
  | nil : SxOk K []
  | l {i : Nat} {s : List Sx} : SxOk K s → SxOk K (.l i :: s)
  | r {i : Nat} {s : List Sx} : SxOk K s → SxOk K (.r i :: s)
  | c {p : P} {v : V} {u : Value} {s : List Sx} : (∀ Z, Rp K Z p v) → SxOk K s → SxOk K (.c p v u :: s)
theorem gp_sx {K : PySem.W.Frag} : ∀ {s : List Sx}, SxOk K s → GP K (sxP s) (sxV s)
  | _, .nil => ⟨fun _ _ => rfl⟩
  | _, .l (i := i) h => ⟨fun h1 h2 => ⟨_, _, rfl, h1.getD i, (gp_sx h).ok h1 h2⟩⟩
  | _, .r (i := i) h => ⟨fun h1 h2 => ⟨_, _, rfl, h2.getD i, (gp_sx h).ok h1 h2⟩⟩
  | _, .c hp h => ⟨fun h1 h2 => ⟨_, _, rfl, hp _, (gp_sx h).ok h1 h2⟩⟩
/-- .. and for their values -/
inductive SxRel : List Sx → Prop
  | nil : SxRel []
  | l {i : Nat} {s : List Sx} : SxRel s → SxRel (.l i :: s)
  | r {i : Nat} {s : List Sx} : SxRel s → SxRel (.r i :: s)
  | c {p : P} {v : V} {u : Value} {s : List Sx} : RelV v u → SxRel s → SxRel (.c p v u :: s)
theorem vals_getD {vs : List V} {us : List Value} (r : Vals vs us) (i : Nat) : RelV (vs.getD i .non) (us.getD i .none) := by
  rw [List.getD_eq_getElem?_getD, List.getD_eq_getElem?_getD]
  cases q : vs[i]? with
  | none => rw [r.none_of q]; exact rfl
  | some v =>
    obtain ⟨u, q1, q2⟩ := r.get q
    rw [q1]
    exact q2
theorem sx_rel : ∀ {s : List Sx}, SxRel s → ∀ {vs : List V} {us : List Value} {zs : List V} {ws : List Value}, Vals vs us → Vals zs ws → Vals (sxV s vs zs) (sxU s us ws)
  | _, .nil, _, _, _, _, _, _ => .nil
  | _, .l (i := i) h, _, _, _, _, r1, r2 => .cons (vals_getD r1 i) (sx_rel h r1 r2)
  | _, .r (i := i) h, _, _, _, _, r1, r2 => .cons (vals_getD r2 i) (sx_rel h r1 r2)
  | _, .c hv h, _, _, _, _, r1, r2 => .cons hv (sx_rel h r1 r2)
def dKwN (fn : Fn) (n m : Nat) (gP : List P → List P → List P) (f g : En → Option (List P × En)) : ED := fun e => (f e).bind fun q => (g q.2).bind fun r => if q.1.length = n ∧ r.1.length = m then (fn ((gP q.1 r.1).map .imm)).map fun z => (z.1, r.2) else none
theorem EvD.kwN {K : PySem.W.Frag} {fn : Fn} {n m : Nat} {gP : List P → List P → List P} {gV : List V → List V → List V} {t tk : TA} {f g : En → Option (List P × En)} {E : XK} (hG : GP K gP gV) (h : EvFs K t f) (hk : EvFs K tk g) : EvD K (tCallN n m (spV K fn) gV E t tk) (dKwN fn n m gP f g) := fun σ H Z e e' A d Q o q k => by
  unfold dKwN at q
  obtain ⟨⟨ps, e1⟩, q1, q⟩ := Option.bind_eq_some_iff.mp q
  obtain ⟨⟨qs, e2⟩, q2, q⟩ := Option.bind_eq_some_iff.mp q
  dsimp only at q2 q
  split at q
  · rename_i hl
    obtain ⟨⟨r, ds'⟩, q3, q⟩ := Option.map_eq_some_iff.mp q
    cases q
    refine h _ o q1 fun Z1 H1 vs A1 s1 o1 b1 r1 => hk _ o1 q2 fun Z2 H2 zs A2 s2 o2 b2 r2 => ?_
    exact ⟨by rw [← r1.length]; exact hl.1, by rw [← r2.length]; exact hl.2, call_data (s1.trans b1 s2) o2 (Sub.trans s1 b1 b2) (hG.ok (Rps.mono s2.z _ _ r1) r2) q3 k⟩
  · cases q
section
variable {X : Cx} {k n m : Nat} {gP : List P → List P → List P} {f : Addr} {fd : FuncData} {ps ks : List Str} {fn : Fn} {nm : Str} {p pos : Pos} {x : Expr} {xs : List Expr} {kws : List Keyword} {s : List Sx} {fa fk : En → Option (List P × En)} {sp : Sp} {E : XK} {tk : TA} {g : List Value → List Value → List Value} {gV : List V → List V → List V}
theorem pe_callN0 {CX : CXT} (F : FnOk X.prog X.w X.K X.mg X.base CX k f fd ps sp) (hr : Room k X.A) (hg : Gl X nm) (hm : X.mg nm = some (.ref f)) (hk : PySem.W.keepIn X.K (.ref f) = true) (hb : KBn X.K fd ps 0 ks g gV) (hx : Passes CX X E)
    (hkw : PK X kws tk) (hall : (backToKw pos (keywordEach kws X.env)).all (·.1.isSome) = true := by rfl) (hks : (backToKw pos (keywordEach kws X.env)).filterMap (·.1) = ks := by rfl)
    (hdb : (nm == ("__debug__" : Str)) = false := by decide) (hpl : ((backTo pos (starEach [] X.env)).any (·.1) || (backToKw pos (keywordEach kws X.env)).any (·.1.isNone)) = false := by rfl) :
    PE X (.Call (.Name nm p) [] kws pos) (tCallN 0 ks.length sp gV E tNil tk) := by
  refine ⟨fun pins s σ H Q I h => ?_⟩
  refine wpAny_Call_Name_kw (ld_glob I hg hm ?_ hdb)
  refine PySem.W.callWith_KW0 (h₀ := X.base) I.ok.mod.kin hk hall (thn (hkw.run pos pins s σ H _ I h) fun ws s1 ⟨zs, H1, I1, rz, l1, l2, q⟩ => ⟨I1.kIn, ?_⟩) hpl
  rw [hks]
  exact run_fnN F hr hb hx I1 .nil rz l1 l2 q
/-- f(k = v, ..) -/
theorem vd_fnS0 (F : FnOk X.prog X.w X.K X.mg X.base CX0 k f fd ps (spV X.K fn)) (hr : Room k X.A) (hg : Gl X nm) (hm : X.mg nm = some (.ref f)) (hk : PySem.W.keepIn X.K (.ref f) = true) (hb : KBn X.K fd ps 0 ks (sxU s) (sxV s)) (hG : SxOk X.K s)
    (hkw : VKs X kws fk) (hall : (backToKw pos (keywordEach kws X.env)).all (·.1.isSome) = true := by rfl) (hks : (backToKw pos (keywordEach kws X.env)).filterMap (·.1) = ks := by rfl)
    (hdb : (nm == ("__debug__" : Str)) = false := by decide) (hpl : ((backTo pos (starEach [] X.env)).any (·.1) || (backToKw pos (keywordEach kws X.env)).any (·.1.isNone)) = false := by rfl) (hP : sxP s = gP := by rfl) (hl : ks.length = m := by rfl) :
    VD X (.Call (.Name nm p) [] kws pos) (dKwN fn 0 m gP fNil fk) := by
  subst hP
  subst hl
  obtain ⟨t, h1, h2⟩ := hkw.out
  have hn : EvFs X.K tNil fNil := fun σ H Z e e' A ps Q o q k => by cases q; exact k Z H [] A (Ex.refl o.zh).stp o .refl rfl
  exact ⟨_, pe_callN0 F hr hg hm hk hb pass0 h1 hall hks hdb hpl, EvD.kwN (gp_sx hG) hn h2⟩
/-- f(e, .., k = v, ..) -/
theorem vd_fnS (F : FnOk X.prog X.w X.K X.mg X.base CX0 k f fd ps (spV X.K fn)) (hr : Room k X.A) (hg : Gl X nm) (hm : X.mg nm = some (.ref f)) (hk : PySem.W.keepIn X.K (.ref f) = true) (hb : KBn X.K fd ps n ks (sxU s) (sxV s)) (hG : SxOk X.K s)
    (ha : VFs X (x :: xs) fa) (hkw : VKs X kws fk) (hall : (backToKw pos (keywordEach kws X.env)).all (·.1.isSome) = true := by rfl) (hks : (backToKw pos (keywordEach kws X.env)).filterMap (·.1) = ks := by rfl)
    (hdb : (nm == ("__debug__" : Str)) = false := by decide) (he : starEach (x :: xs) X.env = (false, eval x X.env) :: starEach xs X.env := by rfl)
    (hpl : ((backTo pos (starEach (x :: xs) X.env)).any (·.1) || (backToKw pos (keywordEach kws X.env)).any (·.1.isNone)) = false := by rfl) (hP : sxP s = gP := by rfl) (hl : ks.length = m := by rfl) :
    VD X (.Call (.Name nm p) (x :: xs) kws pos) (dKwN fn n m gP fa fk) := by
  subst hP
  subst hl
  obtain ⟨t, h1, h2⟩ := hkw.out
  obtain ⟨t', h3, h4⟩ := ha.out
  exact ⟨_, pe_callN F hr hg hm hk hb pass0 h3 h1 hall hks hdb he hpl, EvD.kwN (gp_sx hG) h4 h2⟩
end
/-! ### how a def's defaults are bound: the head's part -/
section
variable {K : PySem.W.Frag} {x qual : Str} {params : Arguments} {body : List Stmt} {scope : Scope} {kws : List (Str × V)} {f : Addr} {fd : FuncData} {ps : List Str}
/-- no default is asked for -/
theorem kb_none (F : FunD K x qual params body scope [] kws f fd) (n : Nat) (ks : List Str) (s : List Sx) (hs : SxRel s)
    (h : ∀ (kV doc pm : Value) (an : Option Addr) (cdv ct : Value) (us ws : List Value), us.length = n → ws.length = ks.length → bindArgs (PySem.W.fnOf x qual params body scope .none kV doc pm an cdv ct) ⟨us, ks.zip ws⟩ = pure (ps.zip (sxU s us ws))) :
    KBn K fd ps n ks (sxU s) (sxV s) := by
  obtain ⟨oc, od, dV, kV, doc, pm, an, cdv, ct, osl, rfl, lk, hcd, hD, hK⟩ := F.ex
  rcases hD with ⟨_, rfl⟩ | ⟨e, _⟩
  · exact ⟨fun s us ws X l1 l2 => .of_eq (h kV doc pm an cdv ct us ws l1 l2), fun r1 r2 => sx_rel hs r1 r2⟩
  · exact absurd rfl e
/-- the one keyword-only default lacks -/
theorem kb_kw1 {y : Str} {v : V} (F : FunD K x qual params body scope [] [(y, v)] f fd) (n : Nat) (ks : List Str) (sl : Value → List Sx) (hs : ∀ u, RelV v u → SxRel (sl u))
    (h : ∀ (D : Addr) (doc pm : Value) (an : Option Addr) (cdv ct u : Value) (us ws : List Value), us.length = n → ws.length = ks.length → KwChain D [(y, u)] (bindArgs (PySem.W.fnOf x qual params body scope .none (.ref D) doc pm an cdv ct) ⟨us, ks.zip ws⟩) (ps.zip (sxU (sl u) us ws))) :
    ∃ u, RelV v u ∧ KBn K fd ps n ks (sxU (sl u)) (sxV (sl u)) := by
  obtain ⟨oc, od, dV, kV, doc, pm, an, cdv, ct, osl, rfl, lk, hcd, hD, hK⟩ := F.ex
  rcases hD with ⟨_, rfl⟩ | ⟨e, _⟩
  · rcases hK with e | ⟨D, rfl, hq⟩
    · cases e
    · obtain ⟨u, hu, ru⟩ := hq (y, v) List.mem_cons_self
      refine ⟨u, ru, ⟨fun s us ws X l1 l2 => BindsTo.of_looks fun M => KwChain.looks X (fun q hq => ?_) (h D doc pm an cdv ct u us ws l1 l2), fun r1 r2 => sx_rel (hs u ru) r1 r2⟩⟩
      rw [List.mem_singleton.mp hq]
      exact hu
  · exact absurd rfl e
end
end VL
end

section
set_option Elab.async false
set_option linter.all false
set_option maxRecDepth 100000
namespace VL
open PySem PySem.Spec PyProof.Rows L2
/-- where the data of a call by keywords go -/
inductive Sd where
  | l (i : Nat) | r (i : Nat) | c (p : P)
def spx (s : List Sd) (ps qs : List P) : List P := s.map fun
  | .l i => ps.getD i .any
  | .r i => qs.getD i .any
  | .c p => p
end VL
end

section
set_option Elab.async false
set_option linter.all false
set_option maxRecDepth 100000
namespace VL
open PySem PySem.Spec PyProof.Rows L2
open PySem.W (EachIs SortsAt sortVals sortingHeap)

/-! ### new lists, which who asked for them holds alone -/
def OpN (K : PySem.W.Frag) (r : R2) (g : P → P → Option (List P)) : Prop := ∀ ⦃H Z : Hp⦄ ⦃x y : V⦄ ⦃p q : P⦄ ⦃l : List P⦄ (Q : VK), Same Z H → Rr K Z H p x → Rr K Z H q y → g p q = some l → Fresh K Z H l Q → r x y H Q
def CallN (K : PySem.W.Frag) (r : List V → Hp → VK → Prop) (g : List P → Option (List P)) : Prop := ∀ ⦃H Z : Hp⦄ ⦃vs : List V⦄ ⦃ps : List P⦄ ⦃l : List P⦄ (Q : VK), Same Z H → Rrs K Z H ps vs → g ps = some l → Fresh K Z H l Q → r vs H Q
theorem fresh_end {K : PySem.W.Frag} {Z0 H0 Z H : Hp} {σ : L2.St} {e : En} {A0 A : List Addr} {l : List P} {Q : VK} (s0 : Stp A0 Z0 H0 Z H) (o : Ok K Z H σ e A) (b0 : Sub A0 H0 A)
    (k : ∀ Z' H' v A' F, Stp A0 Z0 H0 Z' H' → Ok K Z' H' σ e A' → RD K Z' H' (.lst l) v F → (F ++ A').Nodup → (∀ a ∈ F, Z' a = none) → Sub A0 H0 (F ++ A') → Q v H') : Fresh K Z H l Q := fun Z' a vs x1 hn rp => by
  have o1 := o.ex x1
  have x2 : Ex Z' H Z' (upd H a (.lst vs)) := Ex.own x1.zh hn
  have o2 := o1.ex x2
  have na : a ∉ A := fun z => by
    obtain ⟨w, hw⟩ := Re.there e σ A o.re a z
    rw [hn] at hw; cases hw
  have za : Z' a = none := x1.zh.free hn
  refine k Z' _ (.ref a) A [a] (s0.trans b0 ((x1.trans x2).stp)) o2 ⟨a, vs, rfl, rfl, upd_same, rp⟩ (List.nodup_cons.mpr ⟨na, o.nd⟩) (fun b hb => by rw [List.mem_singleton.mp hb]; exact za) fun b hb => ?_
  rcases List.mem_cons.mp hb with z | z
  · rw [z]; exact s0.nn hn
  · exact b0 b z
def dOpN (g : P → P → Option (List P)) (fa fb : EF) : ED := fun e => (fa e).bind fun p => (fb p.2).bind fun q => (g p.1 q.1).map fun l => (.lst l, q.2)
theorem EvD.opN {K : PySem.W.Frag} {ta tb : TE} {r : R2} {g : P → P → Option (List P)} {fa fb : EF} (hr : OpN K r g) (ha : EvF K ta fa) (hb : EvF K tb fb) : EvD K (tOp r ta tb) (dOpN g fa fb) := fun σ H Z e e' A d Q o q k => by
  unfold dOpN at q
  obtain ⟨⟨pa, ea⟩, qa, q⟩ := Option.bind_eq_some_iff.mp q
  obtain ⟨⟨pb, eb⟩, qb, q⟩ := Option.bind_eq_some_iff.mp q
  obtain ⟨l, q3, q4⟩ := Option.map_eq_some_iff.mp q
  cases q4
  refine ha _ o qa fun Z1 H1 v A1 s1 o1 b1 r1 => hb _ o1 qb fun Z2 H2 u A2 s2 o2 b2 r2 => ?_
  exact hr Q o2.zh (Rp.rr o2.zh _ _ (Rp.mono s2.z _ _ r1)) (Rp.rr o2.zh _ _ r2) q3 (fresh_end (s1.trans b1 s2) o2 (Sub.trans s1 b1 b2) k)
theorem EvD.or {K : PySem.W.Frag} {t u : TE} {f g h : ED} (a : EvD K t f) (b : EvD K u g) (k : ∀ e p, h e = some p → f e = some p ∨ g e = some p) : EvD K (fun σ H Q => t σ H Q ∨ u σ H Q) h := fun σ H Z e e' A d Q o q c =>
  (k e _ q).elim (fun q => .inl (a Q o q c)) fun q => .inr (b Q o q c)
def dOr (f g : ED) : ED := fun e => (f e).or (g e)
theorem dOr_or {f g : ED} : ∀ e p, dOr f g e = some p → f e = some p ∨ g e = some p := fun e p q => by
  unfold dOr at q
  cases z : f e with
  | none => rw [z] at q; exact .inr q
  | some y => rw [z] at q; exact .inl q
theorem VD.or {X : Cx} {x : Expr} {f g : ED} (a : VD X x f) (b : VD X x g) : VD X x (dOr f g) := by
  obtain ⟨t, h1, h2⟩ := a.out
  obtain ⟨u, h3, h4⟩ := b.out
  exact ⟨_, PE.or h1 h3, EvD.or h2 h4 dOr_or⟩
def pCatN : P → P → Option (List P)
  | .lst l, .lst m => if l.length + m.length ≤ sizeLine then some (l ++ m) else none
  | _, _ => none
def pRepN : P → P → Option (List P)
  | .lst l, .int k => if (-(2 ^ 63) ≤ k ∧ k < 2 ^ 63) ∧ l.length * k.toNat ≤ sizeLine then some (List.replicate k.toNat l).flatten else none
  | _, _ => none
theorem on_cat {K : PySem.W.Frag} : OpN K rCat pCatN := fun H Z x y p q l Q s h1 h2 e k => by
  unfold pCatN at e
  split at e
  · split at e
    · rename_i hl
      cases e
      obtain ⟨a, vs, e1, e2, e3⟩ := h1
      obtain ⟨b, us, f1, f2, f3⟩ := h2
      subst e1
      subst f1
      exact ⟨a, b, vs, us, rfl, rfl, e2, f2, by rw [← e3.length, ← f3.length]; exact hl, fun p hp => k Z p _ (.refl s) hp (e3.append f3)⟩
    · cases e
  · cases e
theorem on_rep {K : PySem.W.Frag} : OpN K rRep pRepN := fun H Z x y p q l Q s h1 h2 e k => by
  unfold pRepN at e
  split at e
  · split at e
    · rename_i l j hl
      cases e
      obtain ⟨a, vs, e1, e2, e3⟩ := h1
      cases h2
      subst e1
      exact ⟨a, j, vs, rfl, rfl, e2, hl.1.1, hl.1.2, by rw [← e3.length]; exact hl.2, fun p hp => k Z p _ (.refl s) hp (e3.rep _)⟩
    · cases e
  · cases e
section
variable {X : Cx} {a b : Expr} {fa fb : EF} {pos : Pos}
/-- a + b, a new list or else data -/
theorem vd_add (ha : VF X a fa) (hb : VF X b fb) : VD X (.BinOp a .Add b pos) (dOr (dOpN pCatN fa fb) (dF (fOp pAdd fa fb))) := by
  obtain ⟨ta, h1, h2⟩ := ha.out
  obtain ⟨tb, h3, h4⟩ := hb.out
  exact VD.or ⟨_, pe_op op_cat h1 h3, EvD.opN on_cat h2 h4⟩ (VF.toD (vf_op opr_add ha hb))
theorem vd_mul (ha : VF X a fa) (hb : VF X b fb) : VD X (.BinOp a .Mult b pos) (dOr (dOpN pRepN fa fb) (dF (fOp pMul2 fa fb))) := by
  obtain ⟨ta, h1, h2⟩ := ha.out
  obtain ⟨tb, h3, h4⟩ := hb.out
  exact VD.or ⟨_, pe_op op_rep h1 h3, EvD.opN on_rep h2 h4⟩ (VF.toD (vf_op opr_mul2 ha hb))
end
def dOpR (g : P → P → Option (List P)) (fa fb : EQ) : ED := fun e => (fa e).bind fun p => (fb e).bind fun q => (g p q).map fun l => (.lst l, e)
theorem EvD.opR {K : PySem.W.Frag} {ta tb : TE} {r : R2} {g : P → P → Option (List P)} {fa fb : EQ} (hr : OpN K r g) (ha : EvR K ta fa) (hb : EvR K tb fb) : EvD K (tOp r ta tb) (dOpR g fa fb) := fun σ H Z e e' A d Q o q k => by
  unfold dOpR at q
  obtain ⟨pa, qa, q⟩ := Option.bind_eq_some_iff.mp q
  obtain ⟨pb, qb, q⟩ := Option.bind_eq_some_iff.mp q
  obtain ⟨l, q3, q4⟩ := Option.map_eq_some_iff.mp q
  cases q4
  refine ha _ o qa fun Z1 H1 v x1 r1 => hb _ (o.ex x1) qb fun Z2 H2 u x2 r2 => ?_
  have x := x1.trans x2
  exact hr Q x.zh (Rr.mono x2.z x2.h _ _ r1) r2 q3 (fresh_end x.stp (o.ex x) .refl k)
section
variable {X : Cx} {a b : Expr} {fa fb : EQ} {pos : Pos}
theorem vd_addR (ha : VR X a fa) (hb : VR X b fb) : VD X (.BinOp a .Add b pos) (dOr (dOpR pCatN fa fb) (dF (fQ (eOp pAdd fa fb)))) := by
  obtain ⟨ta, h1, h2⟩ := ha.out
  obtain ⟨tb, h3, h4⟩ := hb.out
  exact VD.or ⟨_, pe_op op_cat h1 h3, EvD.opR on_cat h2 h4⟩ (VQ.toD (vq_op opr_add ha hb))
theorem vd_mulR (ha : VR X a fa) (hb : VR X b fb) : VD X (.BinOp a .Mult b pos) (dOr (dOpR pRepN fa fb) (dF (fQ (eOp pMul2 fa fb)))) := by
  obtain ⟨ta, h1, h2⟩ := ha.out
  obtain ⟨tb, h3, h4⟩ := hb.out
  exact VD.or ⟨_, pe_op op_rep h1 h3, EvD.opR on_rep h2 h4⟩ (VQ.toD (vq_op opr_mul2 ha hb))
end
/-! ### list(x), sorted(x) -/
def dCallN (g : List P → Option (List P)) (f : En → Option (List P × En)) : ED := fun e => (f e).bind fun q => (g q.1).map fun l => (.lst l, q.2)
def dCallR (g : List P → Option (List P)) (f : En → Option (List P)) : ED := fun e => (f e).bind fun q => (g q).map fun l => (.lst l, e)
theorem EvD.callN {K : PySem.W.Frag} {t : TA} {r : List V → Hp → VK → Prop} {g : List P → Option (List P)} {f : En → Option (List P × En)} (h : EvFs K t f) (c : CallN K r g) : EvD K (tCB r t) (dCallN g f) := fun σ H Z e e' A d Q o q k => by
  unfold dCallN at q
  obtain ⟨⟨ps, e1⟩, q1, q⟩ := Option.bind_eq_some_iff.mp q
  obtain ⟨l, q3, q4⟩ := Option.map_eq_some_iff.mp q
  cases q4
  exact h _ o q1 fun Z1 H1 vs A1 s1 o1 b1 r1 => c Q o1.zh (Rps.rr o1.zh _ _ r1) q3 (fresh_end s1 o1 b1 k)
theorem EvD.callR {K : PySem.W.Frag} {t : TA} {r : List V → Hp → VK → Prop} {g : List P → Option (List P)} {f : En → Option (List P)} (h : EvRs K t f) (c : CallN K r g) : EvD K (tCB r t) (dCallR g f) := fun σ H Z e e' A d Q o q k => by
  unfold dCallR at q
  obtain ⟨ps, q1, q⟩ := Option.bind_eq_some_iff.mp q
  obtain ⟨l, q3, q4⟩ := Option.map_eq_some_iff.mp q
  cases q4
  exact h _ o q1 fun Z1 H1 vs x1 r1 => c Q x1.zh r1 q3 (fresh_end x1.stp (o.ex x1) .refl k)
def CalN (X : Cx) (f : Value) (g : List P → Option (List P)) : Prop := ∃ r, CallR X f r ∧ CallN X.K r g
def rOfN (K : PySem.W.Frag) (g : List P → Option (List P)) : List V → Hp → VK → Prop := fun vs H Q => ∃ Z ps l, Same Z H ∧ Rrs K Z H ps vs ∧ g ps = some l ∧ Fresh K Z H l Q
theorem cn_of {K : PySem.W.Frag} {g : List P → Option (List P)} : CallN K (rOfN K g) g := fun H Z vs ps z Q s h e k => ⟨Z, ps, z, s, h, e, k⟩
def gListN : List P → Option (List P)
  | [.lst l] => some l
  | [.tup _ l] => some l
  | _ => none
theorem caln_list {X : Cx} : CalN X (.type "list") gListN := ⟨_, call_list_of, fun H Z vs ps z Q s h e k => by
  unfold gListN at e
  split at e
  · obtain ⟨v, h1, h2⟩ := rrs1 h
    cases e
    obtain ⟨a, us, e1, h3, h4⟩ := h2
    subst e1
    exact ⟨a, us, h1, .inl (SqL.of h3), fun l hl => k Z l us (.refl s) hl h4⟩
  · obtain ⟨v, h1, h2⟩ := rrs1 h
    cases e
    obtain ⟨a, us, e1, h3, h4⟩ := h2
    subst e1
    exact ⟨a, us, h1, .inr (Same.seqT s h3.1), fun l hl => k Z l us (.refl s) hl h4⟩
  · cases e⟩
def gSortN : List P → Option (List P)
  | [p] => (p.items.or p.dkeys).bind fun l => if sortOk l = true then some (sortP l) else none
  | _ => none
theorem caln_sorted {X : Cx} (hc : X.calm = true) (hu : X.A.units + 64 < cLine) : CalN X (.builtin "sorted") gSortN := by
  refine ⟨rOfN X.K gSortN, fun pins s σ H xs us Q I r h => ?_, cn_of⟩
  obtain ⟨Z, ps, z, sm, rr, e, k⟩ := h
  unfold gSortN at e
  split at e
  · obtain ⟨l, e1, e2⟩ := Option.bind_eq_some_iff.mp e
    split at e2
    · rename_i p ok
      cases e2
      obtain ⟨v, h1, h2⟩ := rrs1 rr
      subst h1
      cases r with
      | cons r1 r2 =>
        cases r2
        cases ei : p.items with
        | some l' =>
          rw [ei] at e1
          cases e1
          exact sorted_from (collect_sq I sm h2 r1 ei fun us its h' rv rp hL I1 => ⟨hL, sort_coreN hu I1 sm rv rp ok hL k⟩)
        | none =>
          rw [ei] at e1
          have e1' : p.dkeys = some l := e1
          obtain ⟨a, rfl⟩ := dkeys_ref h2 e1'
          cases r1
          exact sorted_from (collect_keys (I.ok.hd hc) I sm h2 e1' fun Z' us its h' tk x1 rv rp hL I1 => ⟨hL, sort_coreN hu I1 x1.zh rv rp ok hL (k.ex x1)⟩)
    · cases e2
  · cases e
section
variable {X : Cx} {nm : Str} {p pos : Pos} {x : Expr} {xs : List Expr} {g : List P → Option (List P)} {f : En → Option (List P)} {ff : En → Option (List P × En)} {T id : String}
theorem vd_callRB (hc : CalN X (.builtin id) g) (hg : Gl X nm) (hm : X.mg nm = none) (hv : bootBuiltins nm = some (.builtin id)) (ha : VRs X (x :: xs) f) (hn : nm ≠ "__name__" := by decide) (hdb : (nm == ("__debug__" : Str)) = false := by decide)
    (he : starEach (x :: xs) X.env = (false, eval x X.env) :: starEach xs X.env := by rfl) (hpl : (backTo pos (starEach xs X.env)).any (·.1) = false := by rfl) : VD X (.Call (.Name nm p) (x :: xs) [] pos) (dCallR g f) := by
  obtain ⟨r, h1, h2⟩ := hc
  obtain ⟨t, h3, h4⟩ := ha.out
  exact ⟨_, pe_callB h1 hg hm hv h3 hn hdb he hpl, EvD.callR h4 h2⟩
theorem vd_callNB (hc : CalN X (.builtin id) g) (hg : Gl X nm) (hm : X.mg nm = none) (hv : bootBuiltins nm = some (.builtin id)) (ha : VFs X (x :: xs) ff) (hn : nm ≠ "__name__" := by decide) (hdb : (nm == ("__debug__" : Str)) = false := by decide)
    (he : starEach (x :: xs) X.env = (false, eval x X.env) :: starEach xs X.env := by rfl) (hpl : (backTo pos (starEach xs X.env)).any (·.1) = false := by rfl) : VD X (.Call (.Name nm p) (x :: xs) [] pos) (dCallN g ff) := by
  obtain ⟨r, h1, h2⟩ := hc
  obtain ⟨t, h3, h4⟩ := ha.out
  exact ⟨_, pe_callB h1 hg hm hv h3 hn hdb he hpl, EvD.callN h4 h2⟩
theorem vd_callRT (hc : CalN X (.type T) g) (hg : Gl X nm) (hm : X.mg nm = none) (hv : bootBuiltins nm = some (.type T)) (ha : VRs X (x :: xs) f) (hn : nm ≠ "__name__" := by decide) (hdb : (nm == ("__debug__" : Str)) = false := by decide)
    (he : starEach (x :: xs) X.env = (false, eval x X.env) :: starEach xs X.env := by rfl) (hpl : (backTo pos (starEach xs X.env)).any (·.1) = false := by rfl) : VD X (.Call (.Name nm p) (x :: xs) [] pos) (dCallR g f) := by
  obtain ⟨r, h1, h2⟩ := hc
  obtain ⟨t, h3, h4⟩ := ha.out
  exact ⟨_, pe_callTy h1 hg hm hv h3 hn hdb he hpl, EvD.callR h4 h2⟩
theorem vd_callNT (hc : CalN X (.type T) g) (hg : Gl X nm) (hm : X.mg nm = none) (hv : bootBuiltins nm = some (.type T)) (ha : VFs X (x :: xs) ff) (hn : nm ≠ "__name__" := by decide) (hdb : (nm == ("__debug__" : Str)) = false := by decide)
    (he : starEach (x :: xs) X.env = (false, eval x X.env) :: starEach xs X.env := by rfl) (hpl : (backTo pos (starEach xs X.env)).any (·.1) = false := by rfl) : VD X (.Call (.Name nm p) (x :: xs) [] pos) (dCallN g ff) := by
  obtain ⟨r, h1, h2⟩ := hc
  obtain ⟨t, h3, h4⟩ := ha.out
  exact ⟨_, pe_callTy h1 hg hm hv h3 hn hdb he hpl, EvD.callN h4 h2⟩
end
end VL
end

section
set_option Elab.async false
set_option linter.all false
set_option maxRecDepth 100000
/-! the head: facts, and one Bool more -/
namespace VL
open PySem PySem.Spec PyProof.Rows L2 He
abbrev AlE : Type := Bool × AlD
def obsE (fa : List Fa) (fn : List DefD) (ex : PySem.W.Frag → Bool) (K : PySem.W.Frag) : AlE := (ex K, obsD fa fn K)
def SaysE (fa : List Fa) (fn : List DefD) (ex : PySem.W.Frag → Bool) (K : PySem.W.Frag) : Prop := obsE fa fn ex K = (true, valD fn)
def obsEG (n : Nat) (fa : List Fa) (fn : List DefD) (ex : PySem.W.Frag → Bool) (g : Addr → Option Obj) : AlE := obsE fa fn ex (frG g (asD g n))
def hookE (n : Nat) (fa : List Fa) (fn : List DefD) (ex : PySem.W.Frag → Bool) : PySem.W.Hook where
  α := AlE
  obs := fun s => obsEG n fa fn ex s.heap.get?
  val := fun _ => (true, valD fn)
  says := fun _ h => ∃ K : PySem.W.Frag, K.In h ∧ SaysE fa fn ex K
  of := fun _ _ e => ⟨_, frG_in, e⟩
  keeps := fun _ _ _ ⟨K, hK, c⟩ k => ⟨K, PySem.W.Frag.In.keeps hK k, c⟩
theorem obsEG_eq {n : Nat} {fa : List Fa} {fn : List DefD} {ex : PySem.W.Frag → Bool} {g : Addr → Option Obj} {s : Shared} (h : ∀ a, g a = s.heap.get? a) : obsEG n fa fn ex g = (hookE n fa fn ex).obs s := by
  have e : g = s.heap.get? := funext h
  rw [e] <;> rfl
theorem SaysE.d {fa : List Fa} {fn : List DefD} {ex : PySem.W.Frag → Bool} {K : PySem.W.Frag} (c : SaysE fa fn ex K) : SaysD fa fn K := congrArg (fun z : AlE => z.2) c
theorem SaysE.ex {fa : List Fa} {fn : List DefD} {ex : PySem.W.Frag → Bool} {K : PySem.W.Frag} (c : SaysE fa fn ex K) : ex K = true := congrArg (fun z : AlE => z.1) c
/-- a value of the written part that reads as the data (n: how deep) -/
def datB (K : PySem.W.Frag) : Nat → P → Value → Bool
  | 0, _, _ => false
  | n + 1, p, u => match p, u with
    | .non, .none => true
    | .bl b, .bool c => b == c
    | .int i, .int j _ => decide (i = j)
    | .str x, .str y _ => decide (x = y)
    | .tup false l, .ref a => (match K.lookup a with
      | some ⟨.type c, _, .seq its _, _⟩ => decide (c = "tuple") && (decide (its.size ≤ sizeLine) && (decide (l.length = its.toList.length) && (l.zip its.toList).all fun q => datB K n q.1 q.2))
      | _ => false)
    | _, _ => false
theorem datB_ok {K : PySem.W.Frag} : ∀ (n : Nat) (p : P) (u : Value), datB K n p u = true → ∃ v, RelV v u ∧ ∀ Z, Rp K Z p v
  | 0, _, _, h => by cases h
  | n + 1, p, u, h => by
    unfold datB at h
    split at h
    · exact ⟨.non, rfl, fun _ => rfl⟩
    · rename_i b c
      have e : b = c := by simpa using h
      subst e
      exact ⟨.bl b, rfl, fun _ => rfl⟩
    · rename_i i j t
      have e : i = j := of_decide_eq_true h
      subst e
      exact ⟨.int i, ⟨t, rfl⟩, fun _ => rfl⟩
    · rename_i x y t
      have e : x = y := of_decide_eq_true h
      subst e
      exact ⟨.str x, ⟨t, rfl⟩, fun _ => rfl⟩
    · rename_i l a
      split at h
      · rename_i c od its m sl hk
        obtain ⟨h1, h2⟩ := ba h
        obtain ⟨h3, h4⟩ := ba h2
        obtain ⟨h5, h6⟩ := ba h4
        have all : ∀ (l : List P) (us : List Value), l.length = us.length → ((l.zip us).all fun q => datB K n q.1 q.2) = true → ∃ vs, Vals vs us ∧ ∀ Z, Rps K Z l vs := by
          intro l
          induction l with
          | nil =>
            intro us hl _
            cases us with
            | nil => exact ⟨[], .nil, fun _ => rfl⟩
            | cons _ _ => simp at hl
          | cons p l ih =>
            intro us hl ha
            cases us with
            | nil => simp at hl
            | cons u us =>
              rw [List.zip_cons_cons, List.all_cons] at ha
              obtain ⟨a1, a2⟩ := ba ha
              obtain ⟨v, r1, r2⟩ := datB_ok n p u a1
              obtain ⟨vs, r3, r4⟩ := ih us (by simpa using hl) a2
              exact ⟨v :: vs, .cons r1 r3, fun Z => ⟨v, vs, rfl, r2 Z, r4 Z⟩⟩
        obtain ⟨vs, r1, r2⟩ := all l its.toList (of_decide_eq_true h5) h6
        refine ⟨.ref a, rfl, fun Z => ⟨a, vs, rfl, ⟨.inr ⟨_, its, m, hk, congrArg Value.type (of_decide_eq_true h1), rfl, of_decide_eq_true h3, r1⟩, fun z => nomatch z⟩, r2 Z⟩⟩
      · cases h
    · cases h
/-- the module's name x stands for the data -/
def conB (K : PySem.W.Frag) (x : Str) (p : P) : Bool := match PySem.W.nsIn K mainGlobals x with
  | some (some u) => datB K 8 p u
  | _ => false
theorem conB_ok {K : PySem.W.Frag} {h : Heap} {mg : Str → Option Value} {x : Str} {p : P} (X : K.In h) (G : h.Ns mainGlobals mg) (c : conB K x p = true) : ∃ v u, mg x = some u ∧ RelV v u ∧ ∀ Z, Rp K Z p v := by
  unfold conB at c
  split at c
  · rename_i u hu
    obtain ⟨v, r1, r2⟩ := datB_ok 8 p u c
    exact ⟨v, u, PySem.W.mg_of X G hu, r1, r2⟩
  · cases c
end VL
end

section
set_option Elab.async false
set_option linter.all false
set_option maxRecDepth 100000
set_option maxHeartbeats 1000000
namespace G
open PySem PySem.Spec PyProof.Rows L2 VL
def top (i : Nat) : Stmt := PySem.Challenge.pw_strangeseats_k08_frames_all.main.body.getD i (.Pass ⟨0, 0, 0, 0⟩)
structure Tx (K : PySem.W.Frag) (mg : Str → Option Value) where
  b_all : mg "all" = none
  b_enumerate : mg "enumerate" = none
  b_int : mg "int" = none
  b_len : mg "len" = none
  b_range : mg "range" = none
  b_sorted : mg "sorted" = none
  b_sum : mg "sum" = none
  b_tuple : mg "tuple" = none
  v_STRANGE : V
  u_STRANGE : Value
  g_STRANGE : mg "STRANGE" = some u_STRANGE
  r_STRANGE : RelV v_STRANGE u_STRANGE
  c_STRANGE : ∀ Z, Rp K Z (.tup false [(.int (-1)), (.int (-1))]) v_STRANGE
  fd_held_things : FuncData
  f_held_things : FunD K "held_things" "held_things" (defArgs (top 2)) (defBody (top 2)) (defScope (top 2)) [] [] (He.fAd K ("held_things", none)) fd_held_things
  bi_held_things : Binds K fd_held_things ["frame"] []
  g_held_things : mg "held_things" = some (.ref (He.fAd K ("held_things", none)))
  k_held_things : PySem.W.keepIn K (.ref (He.fAd K ("held_things", none))) = true
  fd_cases : FuncData
  f_cases : FunD K "cases" "cases" (defArgs (top 3)) (defBody (top 3)) (defScope (top 3)) [] [] (He.fAd K ("cases", none)) fd_cases
  bi_cases : Binds K fd_cases ["frame"] []
  g_cases : mg "cases" = some (.ref (He.fAd K ("cases", none)))
  k_cases : PySem.W.keepIn K (.ref (He.fAd K ("cases", none))) = true
  fd_join_cases : FuncData
  f_join_cases : FunD K "join_cases" "join_cases" (defArgs (top 4)) (defBody (top 4)) (defScope (top 4)) [] [] (He.fAd K ("join_cases", none)) fd_join_cases
  g_join_cases : mg "join_cases" = some (.ref (He.fAd K ("join_cases", none)))
  k_join_cases : PySem.W.keepIn K (.ref (He.fAd K ("join_cases", none))) = true
  fd_is_join_of_both : FuncData
  f_is_join_of_both : FunD K "is_join_of_both" "is_join_of_both" (defArgs (top 5)) (defBody (top 5)) (defScope (top 5)) [] [] (He.fAd K ("is_join_of_both", none)) fd_is_join_of_both
  bi_is_join_of_both : Binds K fd_is_join_of_both ["case", "join"] []
  g_is_join_of_both : mg "is_join_of_both" = some (.ref (He.fAd K ("is_join_of_both", none)))
  k_is_join_of_both : PySem.W.keepIn K (.ref (He.fAd K ("is_join_of_both", none))) = true
  fd_things : FuncData
  f_things : FunD K "things" "things" (defArgs (top 6)) (defBody (top 6)) (defScope (top 6)) [] [("join", .bl false)] (He.fAd K ("things", none)) fd_things
  g_things : mg "things" = some (.ref (He.fAd K ("things", none)))
  k_things : PySem.W.keepIn K (.ref (He.fAd K ("things", none))) = true
  fd_beneath : FuncData
  f_beneath : FunD K "beneath" "beneath" (defArgs (top 7)) (defBody (top 7)) (defScope (top 7)) [] [("join", .bl false)] (He.fAd K ("beneath", none)) fd_beneath
  g_beneath : mg "beneath" = some (.ref (He.fAd K ("beneath", none)))
  k_beneath : PySem.W.keepIn K (.ref (He.fAd K ("beneath", none))) = true
  fd_law_lines : FuncData
  f_law_lines : FunD K "_law_lines" "_law_lines" (defArgs (top 9)) (defBody (top 9)) (defScope (top 9)) [] [] (He.fAd K ("_law_lines", none)) fd_law_lines
  bi_law_lines : Binds K fd_law_lines ["_law_words", "_law_shape"] []
  g_law_lines : mg "_law_lines" = some (.ref (He.fAd K ("_law_lines", none)))
  k_law_lines : PySem.W.keepIn K (.ref (He.fAd K ("_law_lines", none))) = true
  fd_law_there : FuncData
  f_law_there : FunD K "_law_there" "_law_there" (defArgs (top 10)) (defBody (top 10)) (defScope (top 10)) [] [] (He.fAd K ("_law_there", none)) fd_law_there
  bi_law_there : Binds K fd_law_there ["_law_shape", "_law_word", "_law_spot"] []
  g_law_there : mg "_law_there" = some (.ref (He.fAd K ("_law_there", none)))
  k_law_there : PySem.W.keepIn K (.ref (He.fAd K ("_law_there", none))) = true
  fd_law_frames : FuncData
  f_law_frames : FunD K "_law_frames" "_law_frames" (defArgs (top 11)) (defBody (top 11)) (defScope (top 11)) [] [] (He.fAd K ("_law_frames", none)) fd_law_frames
  bi_law_frames : Binds K fd_law_frames [] []
  g_law_frames : mg "_law_frames" = some (.ref (He.fAd K ("_law_frames", none)))
  k_law_frames : PySem.W.keepIn K (.ref (He.fAd K ("_law_frames", none))) = true
  fd_law_case_right : FuncData
  f_law_case_right : FunD K "_law_case_right" "_law_case_right" (defArgs (top 12)) (defBody (top 12)) (defScope (top 12)) [] [] (He.fAd K ("_law_case_right", none)) fd_law_case_right
  bi_law_case_right : Binds K fd_law_case_right ["_law_shape", "_law_word", "_law_spot"] []
  g_law_case_right : mg "_law_case_right" = some (.ref (He.fAd K ("_law_case_right", none)))
  k_law_case_right : PySem.W.keepIn K (.ref (He.fAd K ("_law_case_right", none))) = true
  fd_law : FuncData
  f_law : FunD K "law" "law" (defArgs (top 13)) (defBody (top 13)) (defScope (top 13)) [] [] (He.fAd K ("law", none)) fd_law
  g_law : mg "law" = some (.ref (He.fAd K ("law", none)))
  k_law : PySem.W.keepIn K (.ref (He.fAd K ("law", none))) = true
  kb_things_0 : KBn K fd_things ["frame", "case", "join"] 2 ["join"] (sxU [.l 0, .l 1, .r 0]) (sxV [.l 0, .l 1, .r 0])
  xv_kb_things_1_join : V
  xu_kb_things_1_join : Value
  xr_kb_things_1_join : RelV xv_kb_things_1_join xu_kb_things_1_join
  xp_kb_things_1_join : ∀ Z, Rp K Z (.bl false) xv_kb_things_1_join
  kb_things_1 : KBn K fd_things ["frame", "case", "join"] 0 ["case", "frame"] (sxU [.r 1, .r 0, .c (.bl false) xv_kb_things_1_join xu_kb_things_1_join]) (sxV [.r 1, .r 0, .c (.bl false) xv_kb_things_1_join xu_kb_things_1_join])
  kb_beneath_2 : KBn K fd_beneath ["frame", "case", "thing", "join"] 3 ["join"] (sxU [.l 0, .l 1, .l 2, .r 0]) (sxV [.l 0, .l 1, .l 2, .r 0])
  kb_beneath_3 : KBn K fd_beneath ["frame", "case", "thing", "join"] 0 ["join", "thing", "case", "frame"] (sxU [.r 3, .r 2, .r 1, .r 0]) (sxV [.r 3, .r 2, .r 1, .r 0])
  kb_join_cases_4 : KBn K fd_join_cases ["frame"] 0 ["frame"] (sxU [.r 0]) (sxV [.r 0])
  kb_cases_5 : KBn K fd_cases ["frame"] 0 ["frame"] (sxU [.r 0]) (sxV [.r 0])
section
variable {P : Program} {w : World} {K : PySem.W.Frag} {mg : Str → Option Value} {base : Heap}
abbrev s_held_things : Stmt := top 2
abbrev N_held_things : List Str := ["frame", "rows", "at", "many", "seat"]
theorem sc_held_things : FnScope N_held_things ["frame"] (defScope s_held_things) := ⟨rfl, rfl, rfl, by decide +kernel, rfl, by decide +kernel, by decide +kernel⟩
def g_held_things : ES := (sSeq (sSet 1 (dLst fNil))
    (sSeq (sFor (.t [(.n 2), (.n 3)]) (iEn (fCons (fV 0) fNil))
    (sSeq (sExpr (dMt "list" (.v 1) gApp (fCons (fQ (eTup (eCons (eQ 2) eNil))) fNil)))
    (sExpr (dMt "list" (.v 1) gExt (fCons (fD (dLc [4] (.n 4) tYesE (fQ (eTup (eCons (eQ 2) (eCons (eQ 4) eNil)))) (iR1 (fCons (fQ (eQ 3)) fNil)))) fNil)))))
    (sRet (dMv 1))))
@[irreducible] def fn_held_things : Fn := runF 1 4 [1, 2, 3] g_held_things
theorem ok_held_things (T : Tx K mg) : FnOk P w K mg base CX0 1 (He.fAd K ("held_things", none)) T.fd_held_things ["frame"] (spV K fn_held_things) := by
  unfold fn_held_things
  refine fnV T.f_held_things sc_held_things fun cdv A outer s H E hr => ?_
  have nd := sc_held_things.nd
  have hu := hu_of hr
  have hu64 := hu64_of hr
  have hu65 := hu65_of hr
  unfold g_held_things
  exact (vss_cons (vs_set (i := 1) nd rfl (by first | exact .inl rfl | exact .inr rfl) (vd_lst vfs_nil) (by decide))
    (vss_cons (vs_for PassesOwn.never rfl (vi_enum (by rfl) T.b_enumerate (vfs_cons (vf_var 0 (pv 0)) vfs_nil)) (vg_tup rfl (vgs_cons (vg_name (i := 2) nd rfl (by first | exact .inl rfl | exact .inr rfl) (by decide)) (vgs_cons (vg_name (i := 3) nd rfl (by first | exact .inl rfl | exact .inr rfl) (by decide)) vgs_nil)))
    (vss_cons (vs_expr (vd_mt 1 PySem.F.plainAttrs_list PySem.F.slot_list_append PySem.F.type_list_append mt_append mw_append (pv 1) (vfs_cons (VQ.toF (vq_tup (vqs_cons (vq_var 2 (pv 2)) vqs_nil))) vfs_nil)))
    (vss_one (vs_expr (vd_mt 1 PySem.F.plainAttrs_list PySem.F.slot_list_extend PySem.F.type_list_extend mt_extend mw_extend (pv 1) (vfs_cons (VD.toF (vd_lc [("seat", 4)] rfl nd (blkOk_by (N := N_held_things) (sc := defScope s_held_things) (by decide +kernel)) (vi_range1 (by rfl) T.b_range (vfs_cons (VQ.toF (vq_var 3 (pv 3))) vfs_nil)) (fun _ _ _ _ _ => (vg_name (i := 4) nd rfl (by first | exact .inl rfl | exact .inr rfl) (by decide))) (fun _ _ _ _ _ => vts_nil) (fun _ _ _ _ _ => (VQ.toF (vq_tup (vqs_cons (vq_var 2 (pv 2)) (vqs_cons (vq_var 4 (pv 4)) vqs_nil))))))) vfs_nil))))))
    (vss_one (vs_ret (vd_move 1 (pv 1))))))
abbrev s_cases : Stmt := top 3
abbrev N_cases : List Str := ["frame", "rows", "at", "many", "seat"]
theorem sc_cases : FnScope N_cases ["frame"] (defScope s_cases) := ⟨rfl, rfl, rfl, by decide +kernel, rfl, by decide +kernel, by decide +kernel⟩
def g_cases : ES := (sSeq (sSet 1 (dLst (fCons (fQ (eC (.tup false [(.int (-1)), (.int (-1))]))) fNil)))
    (sSeq (sFor (.t [(.n 2), (.n 3)]) (iEn (fCons (fV 0) fNil))
    (sExpr (dMt "list" (.v 1) gExt (fCons (fD (dLc [4] (.n 4) tYesE (fQ (eTup (eCons (eQ 2) (eCons (eQ 4) eNil)))) (iR2 (fCons (fQ (eNeg (eC (.int 1)))) (fCons (fQ (eQ 3)) fNil))))) fNil))))
    (sRet (dF (fQ (eCall gTuple (eCons (eV 1) eNil)))))))
@[irreducible] def fn_cases : Fn := runF 1 4 [1, 2, 3] g_cases
theorem ok_cases (T : Tx K mg) : FnOk P w K mg base CX0 1 (He.fAd K ("cases", none)) T.fd_cases ["frame"] (spV K fn_cases) := by
  unfold fn_cases
  refine fnV T.f_cases sc_cases fun cdv A outer s H E hr => ?_
  have nd := sc_cases.nd
  have hu := hu_of hr
  have hu64 := hu64_of hr
  have hu65 := hu65_of hr
  unfold g_cases
  exact (vss_cons (vs_set (i := 1) nd rfl (by first | exact .inl rfl | exact .inr rfl) (vd_lst (vfs_cons (VQ.toF (vq_top (by rfl) T.g_STRANGE T.r_STRANGE T.c_STRANGE)) vfs_nil)) (by decide))
    (vss_cons (vs_for PassesOwn.never rfl (vi_enum (by rfl) T.b_enumerate (vfs_cons (vf_var 0 (pv 0)) vfs_nil)) (vg_tup rfl (vgs_cons (vg_name (i := 2) nd rfl (by first | exact .inl rfl | exact .inr rfl) (by decide)) (vgs_cons (vg_name (i := 3) nd rfl (by first | exact .inl rfl | exact .inr rfl) (by decide)) vgs_nil)))
    (vss_one (vs_expr (vd_mt 1 PySem.F.plainAttrs_list PySem.F.slot_list_extend PySem.F.type_list_extend mt_extend mw_extend (pv 1) (vfs_cons (VD.toF (vd_lc [("seat", 4)] rfl nd (blkOk_by (N := N_cases) (sc := defScope s_cases) (by decide +kernel)) (vi_range2 (by rfl) T.b_range (vfs_cons (VQ.toF (vq_neg (VQ.r vq_int))) (vfs_cons (VQ.toF (vq_var 3 (pv 3))) vfs_nil))) (fun _ _ _ _ _ => (vg_name (i := 4) nd rfl (by first | exact .inl rfl | exact .inr rfl) (by decide))) (fun _ _ _ _ _ => vts_nil) (fun _ _ _ _ _ => (VQ.toF (vq_tup (vqs_cons (vq_var 2 (pv 2)) (vqs_cons (vq_var 4 (pv 4)) vqs_nil))))))) vfs_nil)))))
    (vss_one (vs_ret (VF.toD (VQ.toF (vq_callT cal_tuple (by rfl) T.b_tuple vb_tuple (vrs_cons (vr_var 1 (pv 1)) vrs_nil))))))))
abbrev s_join_cases : Stmt := top 4
abbrev N_join_cases : List Str := ["frame", "pockets", "rows", "at", "later"]
theorem sc_join_cases : FnScope N_join_cases ["frame"] (defScope s_join_cases) := ⟨rfl, rfl, rfl, by decide +kernel, rfl, by decide +kernel, by decide +kernel⟩
def g_join_cases : ES := (sSeq (sSet 1 (dF (fQ (eCall gLenA (eCons (eV 0) eNil)))))
    (sSeq (sSet 2 (dOr (dOpN pCatN (fQ (eLst (eCons (eC (.tup false [(.int (-1)), (.int (-1))])) eNil))) (fD (dLc [3] (.n 3) tYesE (fQ (eTup (eCons (eNeg (eC (.int 1))) (eCons (eQ 3) eNil)))) (iR1 (fCons (fV 1) fNil))))) (dF (fOp pAdd (fQ (eLst (eCons (eC (.tup false [(.int (-1)), (.int (-1))])) eNil))) (fD (dLc [3] (.n 3) tYesE (fQ (eTup (eCons (eNeg (eC (.int 1))) (eCons (eQ 3) eNil)))) (iR1 (fCons (fV 1) fNil))))))))
    (sSeq (sExpr (dMt "list" (.v 2) gExt (fCons (fD (dLc2 [3, 4] (.n 3) tYesE (iR2 (fCons (fQ (eOp pAdd (eV 3) (eC (.int 1)))) (fCons (fV 1) fNil))) [4] (.n 4) tYesE (fQ (eTup (eCons (eQ 3) (eCons (eQ 4) eNil)))) (iR1 (fCons (fV 1) fNil)))) fNil)))
    (sRet (dF (fQ (eCall gTuple (eCons (eV 2) eNil))))))))
@[irreducible] def fn_join_cases : Fn := runF 1 4 [1, 2] g_join_cases
theorem ok_join_cases (T : Tx K mg) : FnOk P w K mg base CX0 1 (He.fAd K ("join_cases", none)) T.fd_join_cases ["frame"] (spV K fn_join_cases) := by
  unfold fn_join_cases
  refine fnV T.f_join_cases sc_join_cases fun cdv A outer s H E hr => ?_
  have nd := sc_join_cases.nd
  have hu := hu_of hr
  have hu64 := hu64_of hr
  have hu65 := hu65_of hr
  unfold g_join_cases
  exact (vss_cons (vs_set (i := 1) nd rfl (by first | exact .inl rfl | exact .inr rfl) (VF.toD (VQ.toF (vq_callB cal_len (by rfl) T.b_len vb_len (vrs_cons (vr_var 0 (pv 0)) vrs_nil)))) (by decide))
    (vss_cons (vs_set (i := 2) nd rfl (by first | exact .inl rfl | exact .inr rfl) (vd_add (VQ.toF (vq_lst (vqs_cons (vq_top (by rfl) T.g_STRANGE T.r_STRANGE T.c_STRANGE) vqs_nil))) (VD.toF (vd_lc [("at", 3)] rfl nd (blkOk_by (N := N_join_cases) (sc := defScope s_join_cases) (by decide +kernel)) (vi_range1 (by rfl) T.b_range (vfs_cons (vf_var 1 (pv 1)) vfs_nil)) (fun _ _ _ _ _ => (vg_name (i := 3) nd rfl (by first | exact .inl rfl | exact .inr rfl) (by decide))) (fun _ _ _ _ _ => vts_nil) (fun _ _ _ _ _ => (VQ.toF (vq_tup (vqs_cons (vq_neg (VQ.r vq_int)) (vqs_cons (vq_var 3 (pv 3)) vqs_nil)))))))) (by decide))
    (vss_cons (vs_expr (vd_mt 2 PySem.F.plainAttrs_list PySem.F.slot_list_extend PySem.F.type_list_extend mt_extend mw_extend (pv 2) (vfs_cons (VD.toF (vd_lc2 [("at", 3), ("later", 4)] [4] rfl nd (blkOk_by (N := N_join_cases) (sc := defScope s_join_cases) (by decide +kernel)) (by decide) (vi_range1 (by rfl) T.b_range (vfs_cons (vf_var 1 (pv 1)) vfs_nil)) (fun _ _ _ _ _ => (vg_name (i := 3) nd rfl (by first | exact .inl rfl | exact .inr rfl) (by decide))) (fun _ _ _ _ _ => vts_nil) (fun _ _ _ _ _ => (vi_range2 (by rfl) T.b_range (vfs_cons (VQ.toF (vq_op opr_add (vr_var 3 (pv 3)) (VQ.r vq_int))) (vfs_cons (vf_var 1 (pv 1)) vfs_nil)))) (fun _ _ _ _ _ => (vg_name (i := 4) nd rfl (by first | exact .inl rfl | exact .inr rfl) (by decide))) (fun _ _ _ _ _ => vts_nil) (fun _ _ _ _ _ => (VQ.toF (vq_tup (vqs_cons (vq_var 3 (pv 3)) (vqs_cons (vq_var 4 (pv 4)) vqs_nil))))))) vfs_nil)))
    (vss_one (vs_ret (VF.toD (VQ.toF (vq_callT cal_tuple (by rfl) T.b_tuple vb_tuple (vrs_cons (vr_var 2 (pv 2)) vrs_nil)))))))))
abbrev s_is_join_of_both : Stmt := top 5
abbrev N_is_join_of_both : List Str := ["case", "join"]
theorem sc_is_join_of_both : FnScope N_is_join_of_both ["case", "join"] (defScope s_is_join_of_both) := ⟨rfl, rfl, rfl, by decide +kernel, rfl, by decide +kernel, by decide +kernel⟩
def g_is_join_of_both : ES := (sRet (dF (fAn (fV 1) (fQ (eOp pGe (eOp pIx (eV 0) (eC (.int 0))) (eC (.int 0)))))))
@[irreducible] def fn_is_join_of_both : Fn := runF 2 0 [] g_is_join_of_both
theorem ok_is_join_of_both (T : Tx K mg) : FnOk P w K mg base CX0 1 (He.fAd K ("is_join_of_both", none)) T.fd_is_join_of_both ["case", "join"] (spV K fn_is_join_of_both) := by
  unfold fn_is_join_of_both
  refine fnV T.f_is_join_of_both sc_is_join_of_both fun cdv A outer s H E hr => ?_
  have nd := sc_is_join_of_both.nd
  have hu := hu_of hr
  have hu64 := hu64_of hr
  have hu65 := hu65_of hr
  unfold g_is_join_of_both
  exact (vss_one (vs_ret (VF.toD (vf_and (vf_var 1 (pv 1)) (vf_one (VQ.toF (vq_cmp opr_ge (VQ.r (vq_ix hu (vr_var 0 (pv 0)) (VQ.r vq_int))) (VQ.r vq_int))))))))
abbrev s_things : Stmt := top 6
abbrev N_things : List Str := ["frame", "case", "join", "rows"]
theorem sc_things : FnScope N_things ["frame", "case", "join"] (defScope s_things) := ⟨rfl, rfl, rfl, by decide +kernel, rfl, by decide +kernel, by decide +kernel⟩
def g_things : ES := (sSeq (sSet 3 (dCallD fn_held_things [] [.lend 0]))
    (sSeq (sIf (tQ (eOp pEq (eV 1) (eC (.tup false [(.int (-1)), (.int (-1))]))))
    (sExpr (dMt "list" (.v 3) gApp (fCons (fQ (eTup (eCons (eNeg (eC (.int 1))) eNil))) fNil)))
    sNx)
    (sSeq (sIf (tAn (tNo (tTru (eV 2))) (tQ (eOp pEq (eOp pIx (eV 1) (eC (.int 1))) (eNeg (eC (.int 1))))))
    (sExpr (dMt "list" (.v 3) gApp (fCons (fV 1) fNil)))
    sNx)
    (sSeq (sIf (tF (fD (dCallD fn_is_join_of_both [] [.lend 1, .lend 2])))
    (sExpr (dMt "list" (.v 3) gRem (fCons (fQ (eTup (eCons (eOp pIx (eV 1) (eC (.int 1))) eNil))) fNil)))
    sNx)
    (sRet (dF (fQ (eCall gTuple (eCons (eCall gSorted2 (eCons (eV 3) eNil)) eNil)))))))))
@[irreducible] def fn_things : Fn := runF 3 1 [3] g_things
theorem ok_things (T : Tx K mg) : FnOk P w K mg base CX0 2 (He.fAd K ("things", none)) T.fd_things ["frame", "case", "join"] (spV K fn_things) := by
  unfold fn_things
  refine fnV T.f_things sc_things fun cdv A outer s H E hr => ?_
  have nd := sc_things.nd
  have hu := hu_of hr
  have hu64 := hu64_of hr
  have hu65 := hu65_of hr
  unfold g_things
  exact (vss_cons (vs_set (i := 3) nd rfl (by first | exact .inl rfl | exact .inr rfl) (vd_fn (ok_held_things T) (hr.mono (by decide)) (by rfl) T.g_held_things T.k_held_things (T.bi_held_things) .nil (fun _ => rfl) (va_lend 0 (pv 0) va_nil)) (by decide))
    (vss_cons (vs_if (vt_cmp (opr_eq hu64) (vr_var 1 (pv 1)) (VQ.r (vq_top (by rfl) T.g_STRANGE T.r_STRANGE T.c_STRANGE)))
    (vss_one (vs_expr (vd_mt 3 PySem.F.plainAttrs_list PySem.F.slot_list_append PySem.F.type_list_append mt_append mw_append (pv 3) (vfs_cons (VQ.toF (vq_tup (vqs_cons (vq_neg (VQ.r vq_int)) vqs_nil))) vfs_nil))))
    vss_nil)
    (vss_cons (vs_if (VW.t (vw_and (vt_not (vt_truth (vr_var 2 (pv 2)))) (vw_and1 (vt_cmp (opr_eq hu64) (VQ.r (vq_ix hu (vr_var 1 (pv 1)) (VQ.r vq_int))) (VQ.r (vq_neg (VQ.r vq_int)))))))
    (vss_one (vs_expr (vd_mt 3 PySem.F.plainAttrs_list PySem.F.slot_list_append PySem.F.type_list_append mt_append mw_append (pv 3) (vfs_cons (vf_var 1 (pv 1)) vfs_nil))))
    vss_nil)
    (vss_cons (vs_if (vt_val (VD.toF (vd_fn (ok_is_join_of_both T) (hr.mono (by decide)) (by rfl) T.g_is_join_of_both T.k_is_join_of_both (T.bi_is_join_of_both) .nil (fun _ => rfl) (va_lend 1 (pv 1) (va_lend 2 (pv 2) va_nil)))))
    (vss_one (vs_expr (vd_mt 3 PySem.F.plainAttrs_list PySem.F.slot_list_remove PySem.F.type_list_remove (mt_removeD hu64) mw_remove (pv 3) (vfs_cons (VQ.toF (vq_tup (vqs_cons (vq_ix hu (vr_var 1 (pv 1)) (VQ.r vq_int)) vqs_nil))) vfs_nil))))
    vss_nil)
    (vss_one (vs_ret (VF.toD (VQ.toF (vq_callT cal_tuple (by rfl) T.b_tuple vb_tuple (vrs_cons (VQ.r (vq_callB (cal_sorted2 rfl hu64) (by rfl) T.b_sorted vb_sorted (vrs_cons (vr_var 3 (pv 3)) vrs_nil))) vrs_nil))))))))))
abbrev s_beneath : Stmt := top 7
abbrev N_beneath : List Str := ["frame", "case", "thing", "join"]
theorem sc_beneath : FnScope N_beneath ["frame", "case", "thing", "join"] (defScope s_beneath) := ⟨rfl, rfl, rfl, by decide +kernel, rfl, by decide +kernel, by decide +kernel⟩
def g_beneath : ES := (sSeq (sIf (tAn (tF (fD (dCallD fn_is_join_of_both [] [.lend 1, .lend 3]))) (tQ (eOp pEq (eOp pIx (eV 2) (eC (.int 0))) (eOp pIx (eV 1) (eC (.int 1))))))
    (sRet (dF (fQ (eTup (eCons (eOp pIx (eV 1) (eC (.int 0))) eNil)))))
    sNx)
    (sRet (dF (fQ (eTup (eCons (eOp pIx (eV 2) (eC (.int 0))) eNil))))))
@[irreducible] def fn_beneath : Fn := runF 4 0 [] g_beneath
theorem ok_beneath (T : Tx K mg) : FnOk P w K mg base CX0 2 (He.fAd K ("beneath", none)) T.fd_beneath ["frame", "case", "thing", "join"] (spV K fn_beneath) := by
  unfold fn_beneath
  refine fnV T.f_beneath sc_beneath fun cdv A outer s H E hr => ?_
  have nd := sc_beneath.nd
  have hu := hu_of hr
  have hu64 := hu64_of hr
  have hu65 := hu65_of hr
  unfold g_beneath
  exact (vss_cons (vs_if (VW.t (vw_and (vt_val (VD.toF (vd_fn (ok_is_join_of_both T) (hr.mono (by decide)) (by rfl) T.g_is_join_of_both T.k_is_join_of_both (T.bi_is_join_of_both) .nil (fun _ => rfl) (va_lend 1 (pv 1) (va_lend 3 (pv 3) va_nil))))) (vw_and1 (vt_cmp (opr_eq hu64) (VQ.r (vq_ix hu (vr_var 2 (pv 2)) (VQ.r vq_int))) (VQ.r (vq_ix hu (vr_var 1 (pv 1)) (VQ.r vq_int)))))))
    (vss_one (vs_ret (VF.toD (VQ.toF (vq_tup (vqs_cons (vq_ix hu (vr_var 1 (pv 1)) (VQ.r vq_int)) vqs_nil))))))
    vss_nil)
    (vss_one (vs_ret (VF.toD (VQ.toF (vq_tup (vqs_cons (vq_ix hu (vr_var 2 (pv 2)) (VQ.r vq_int)) vqs_nil)))))))
abbrev s_law_lines : Stmt := top 9
abbrev N_law_lines : List Str := ["_law_words", "_law_shape", "_law_names", "_law_i", "_law_seats", "_law_found", "_law_word", "_law_held", "_law_k", "_law_spot"]
theorem sc_law_lines : FnScope N_law_lines ["_law_words", "_law_shape"] (defScope s_law_lines) := ⟨rfl, rfl, rfl, by decide +kernel, rfl, by decide +kernel, by decide +kernel⟩
def g_law_lines : ES := (sSeq (sSet 2 (dLst (fCons (fQ (eTup (eCons (eNeg (eC (.int 1))) (eCons (eNeg (eC (.int 1))) eNil)))) fNil)))
    (sSeq (sFor (.t [(.n 3), (.n 4)]) (iEn (fCons (fV 1) fNil))
    (sExpr (dMt "list" (.v 2) gExt (fCons (fD (dLc [8] (.n 8) tYesE (fQ (eTup (eCons (eQ 3) (eCons (eQ 8) eNil)))) (iR2 (fCons (fQ (eNeg (eC (.int 1)))) (fCons (fQ (eQ 4)) fNil))))) fNil))))
    (sSeq (sSet 5 (dLst fNil))
    (sSeq (sFor (.n 6) (iF (fV 0))
    (sExpr (dMt "list" (.v 5) gExt (fCons (fD (dLc [9] (.n 9) tYesE (fQ (eTup (eCons (eQ 6) (eCons (eQ 9) eNil)))) (iF (fV 2)))) fNil))))
    (sSeq (sSet 7 (dOr (dOpN pCatN (fOp pAdd (fQ (eLst (eCons (eTup (eCons (eNeg (eC (.int 1))) (eCons (eNeg (eC (.int 1))) eNil))) eNil))) (fD (dLc [3] (.n 3) tYesE (fQ (eTup (eCons (eNeg (eC (.int 1))) (eCons (eQ 3) eNil)))) (iR1 (fCons (fQ (eCall gLenA (eCons (eV 1) eNil))) fNil))))) (fQ (eOp pMul2 (eLst (eCons (eTup (eCons (eC (.int 0)) (eCons (eC (.int 1)) eNil))) eNil)) (eCall gInt (eCons (eOp pEq (eCall gLenA (eCons (eV 1) eNil)) (eC (.int 2))) eNil))))) (dF (fOp pAdd (fOp pAdd (fQ (eLst (eCons (eTup (eCons (eNeg (eC (.int 1))) (eCons (eNeg (eC (.int 1))) eNil))) eNil))) (fD (dLc [3] (.n 3) tYesE (fQ (eTup (eCons (eNeg (eC (.int 1))) (eCons (eQ 3) eNil)))) (iR1 (fCons (fQ (eCall gLenA (eCons (eV 1) eNil))) fNil))))) (fQ (eOp pMul2 (eLst (eCons (eTup (eCons (eC (.int 0)) (eCons (eC (.int 1)) eNil))) eNil)) (eCall gInt (eCons (eOp pEq (eCall gLenA (eCons (eV 1) eNil)) (eC (.int 2))) eNil))))))))
    (sRet (dOr (dOpN pCatN (fV 5) (fD (dLc [9] (.n 9) tYesE (fQ (eTup (eCons (eC (.str "join")) (eCons (eQ 9) eNil)))) (iF (fV 7))))) (dF (fOp pAdd (fV 5) (fD (dLc [9] (.n 9) tYesE (fQ (eTup (eCons (eC (.str "join")) (eCons (eQ 9) eNil)))) (iF (fV 7)))))))))))))
@[irreducible] def fn_law_lines : Fn := runF 2 8 [2, 3, 4, 5, 6, 7] g_law_lines
theorem ok_law_lines (T : Tx K mg) : FnOk P w K mg base CX0 1 (He.fAd K ("_law_lines", none)) T.fd_law_lines ["_law_words", "_law_shape"] (spV K fn_law_lines) := by
  unfold fn_law_lines
  refine fnV T.f_law_lines sc_law_lines fun cdv A outer s H E hr => ?_
  have nd := sc_law_lines.nd
  have hu := hu_of hr
  have hu64 := hu64_of hr
  have hu65 := hu65_of hr
  unfold g_law_lines
  exact (vss_cons (vs_set (i := 2) nd rfl (by first | exact .inl rfl | exact .inr rfl) (vd_lst (vfs_cons (VQ.toF (vq_tup (vqs_cons (vq_neg (VQ.r vq_int)) (vqs_cons (vq_neg (VQ.r vq_int)) vqs_nil)))) vfs_nil)) (by decide))
    (vss_cons (vs_for PassesOwn.never rfl (vi_enum (by rfl) T.b_enumerate (vfs_cons (vf_var 1 (pv 1)) vfs_nil)) (vg_tup rfl (vgs_cons (vg_name (i := 3) nd rfl (by first | exact .inl rfl | exact .inr rfl) (by decide)) (vgs_cons (vg_name (i := 4) nd rfl (by first | exact .inl rfl | exact .inr rfl) (by decide)) vgs_nil)))
    (vss_one (vs_expr (vd_mt 2 PySem.F.plainAttrs_list PySem.F.slot_list_extend PySem.F.type_list_extend mt_extend mw_extend (pv 2) (vfs_cons (VD.toF (vd_lc [("_law_k", 8)] rfl nd (blkOk_by (N := N_law_lines) (sc := defScope s_law_lines) (by decide +kernel)) (vi_range2 (by rfl) T.b_range (vfs_cons (VQ.toF (vq_neg (VQ.r vq_int))) (vfs_cons (VQ.toF (vq_var 4 (pv 4))) vfs_nil))) (fun _ _ _ _ _ => (vg_name (i := 8) nd rfl (by first | exact .inl rfl | exact .inr rfl) (by decide))) (fun _ _ _ _ _ => vts_nil) (fun _ _ _ _ _ => (VQ.toF (vq_tup (vqs_cons (vq_var 3 (pv 3)) (vqs_cons (vq_var 8 (pv 8)) vqs_nil))))))) vfs_nil)))))
    (vss_cons (vs_set (i := 5) nd rfl (by first | exact .inl rfl | exact .inr rfl) (vd_lst vfs_nil) (by decide))
    (vss_cons (vs_for PassesOwn.never rfl (vi_seq (vf_var 0 (pv 0))) (vg_name (i := 6) nd rfl (by first | exact .inl rfl | exact .inr rfl) (by decide))
    (vss_one (vs_expr (vd_mt 5 PySem.F.plainAttrs_list PySem.F.slot_list_extend PySem.F.type_list_extend mt_extend mw_extend (pv 5) (vfs_cons (VD.toF (vd_lc [("_law_spot", 9)] rfl nd (blkOk_by (N := N_law_lines) (sc := defScope s_law_lines) (by decide +kernel)) (vi_seq (vf_var 2 (pv 2))) (fun _ _ _ _ _ => (vg_name (i := 9) nd rfl (by first | exact .inl rfl | exact .inr rfl) (by decide))) (fun _ _ _ _ _ => vts_nil) (fun _ _ _ _ _ => (VQ.toF (vq_tup (vqs_cons (vq_var 6 (pv 6)) (vqs_cons (vq_var 9 (pv 9)) vqs_nil))))))) vfs_nil)))))
    (vss_cons (vs_set (i := 7) nd rfl (by first | exact .inl rfl | exact .inr rfl) (vd_add (vf_op opr_add (VQ.toF (vq_lst (vqs_cons (vq_tup (vqs_cons (vq_neg (VQ.r vq_int)) (vqs_cons (vq_neg (VQ.r vq_int)) vqs_nil))) vqs_nil))) (VD.toF (vd_lc [("_law_i", 3)] rfl nd (blkOk_by (N := N_law_lines) (sc := defScope s_law_lines) (by decide +kernel)) (vi_range1 (by rfl) T.b_range (vfs_cons (VQ.toF (vq_callB cal_len (by rfl) T.b_len vb_len (vrs_cons (vr_var 1 (pv 1)) vrs_nil))) vfs_nil)) (fun _ _ _ _ _ => (vg_name (i := 3) nd rfl (by first | exact .inl rfl | exact .inr rfl) (by decide))) (fun _ _ _ _ _ => vts_nil) (fun _ _ _ _ _ => (VQ.toF (vq_tup (vqs_cons (vq_neg (VQ.r vq_int)) (vqs_cons (vq_var 3 (pv 3)) vqs_nil)))))))) (VQ.toF (vq_op opr_mul2 (VQ.r (vq_lst (vqs_cons (vq_tup (vqs_cons vq_int (vqs_cons vq_int vqs_nil))) vqs_nil))) (VQ.r (vq_callT cal_int (by rfl) T.b_int vb_int (vrs_cons (VQ.r (vq_cmp (opr_eq hu64) (VQ.r (vq_callB cal_len (by rfl) T.b_len vb_len (vrs_cons (vr_var 1 (pv 1)) vrs_nil))) (VQ.r vq_int))) vrs_nil)))))) (by decide))
    (vss_one (vs_ret (vd_add (vf_var 5 (pv 5)) (VD.toF (vd_lc [("_law_spot", 9)] rfl nd (blkOk_by (N := N_law_lines) (sc := defScope s_law_lines) (by decide +kernel)) (vi_seq (vf_var 7 (pv 7))) (fun _ _ _ _ _ => (vg_name (i := 9) nd rfl (by first | exact .inl rfl | exact .inr rfl) (by decide))) (fun _ _ _ _ _ => vts_nil) (fun _ _ _ _ _ => (VQ.toF (vq_tup (vqs_cons vq_str (vqs_cons (vq_var 9 (pv 9)) vqs_nil)))))))))))))))
abbrev s_law_there : Stmt := top 10
abbrev N_law_there : List Str := ["_law_shape", "_law_word", "_law_spot", "_law_found", "_law_i", "_law_seats", "_law_k"]
theorem sc_law_there : FnScope N_law_there ["_law_shape", "_law_word", "_law_spot"] (defScope s_law_there) := ⟨rfl, rfl, rfl, by decide +kernel, rfl, by decide +kernel, by decide +kernel⟩
def g_law_there : ES := (sSeq (sSet 3 dNewT)
    (sSeq (sFor (.t [(.n 4), (.n 5)]) (iEn (fCons (fV 0) fNil))
    (sUnp (.s (.v 3) (eTup (eCons (eQ 4) eNil))) (fD (dLc [6] (.n 6) tYesE (fQ (eTup (eCons (eQ 4) (eCons (eQ 6) eNil)))) (iR1 (fCons (fQ (eQ 5)) fNil))))))
    (sSeq (sIf (tQ (eOp pEq (eV 1) (eC (.str "join"))))
    (sIf (tQ (eOp pGe (eOp pIx (eV 2) (eC (.int 0))) (eC (.int 0))))
    (sUnp (.s (.v 3) (eTup (eCons (eOp pIx (eV 2) (eC (.int 0))) eNil))) (fOp pAdd (fQ (eOp pIx (eV 3) (eTup (eCons (eOp pIx (eV 2) (eC (.int 0))) eNil)))) (fD (dMt "dict" (.v 3) gPopD (fCons (fQ (eTup (eCons (eOp pIx (eV 2) (eC (.int 1))) eNil))) fNil)))))
    (sIf (tQ (eOp pLt (eOp pIx (eV 2) (eC (.int 1))) (eC (.int 0))))
    (sUnp (.s (.v 3) (eTup (eCons (eNeg (eC (.int 1))) eNil))) (fQ (eLst eNil)))
    sNx))
    (sIf (tQ (eOp pEq (eV 2) (eTup (eCons (eNeg (eC (.int 1))) (eCons (eNeg (eC (.int 1))) eNil)))))
    (sUnp (.s (.v 3) (eTup (eCons (eNeg (eC (.int 1))) eNil))) (fQ (eLst (eCons (eTup (eCons (eNeg (eC (.int 1))) (eCons (eNeg (eC (.int 1))) eNil))) eNil))))
    (sIf (tQ (eOp pEq (eOp pIx (eV 2) (eC (.int 1))) (eNeg (eC (.int 1)))))
    (sUnp (.s (.v 3) (eTup (eCons (eOp pIx (eV 2) (eC (.int 0))) eNil))) (fQ (eOp pAdd (eLst (eCons (eQ 2) eNil)) (eOp pIx (eV 3) (eTup (eCons (eOp pIx (eV 2) (eC (.int 0))) eNil))))))
    sNx)))
    (sRet (dMv 3)))))
@[irreducible] def fn_law_there : Fn := runF 3 4 [3, 4, 5] g_law_there
theorem ok_law_there (T : Tx K mg) : FnOk P w K mg base CX0 1 (He.fAd K ("_law_there", none)) T.fd_law_there ["_law_shape", "_law_word", "_law_spot"] (spV K fn_law_there) := by
  unfold fn_law_there
  refine fnV T.f_law_there sc_law_there fun cdv A outer s H E hr => ?_
  have nd := sc_law_there.nd
  have hu := hu_of hr
  have hu64 := hu64_of hr
  have hu65 := hu65_of hr
  unfold g_law_there
  exact (vss_cons (vs_set (i := 3) nd rfl (by first | exact .inl rfl | exact .inr rfl) vd_newT (by decide))
    (vss_cons (vs_for PassesOwn.never rfl (vi_enum (by rfl) T.b_enumerate (vfs_cons (vf_var 0 (pv 0)) vfs_nil)) (vg_tup rfl (vgs_cons (vg_name (i := 4) nd rfl (by first | exact .inl rfl | exact .inr rfl) (by decide)) (vgs_cons (vg_name (i := 5) nd rfl (by first | exact .inl rfl | exact .inr rfl) (by decide)) vgs_nil)))
    (vss_one (vs_unp (VD.toF (vd_lc [("_law_k", 6)] rfl nd (blkOk_by (N := N_law_there) (sc := defScope s_law_there) (by decide +kernel)) (vi_range1 (by rfl) T.b_range (vfs_cons (VQ.toF (vq_var 5 (pv 5))) vfs_nil)) (fun _ _ _ _ _ => (vg_name (i := 6) nd rfl (by first | exact .inl rfl | exact .inr rfl) (by decide))) (fun _ _ _ _ _ => vts_nil) (fun _ _ _ _ _ => (VQ.toF (vq_tup (vqs_cons (vq_var 4 (pv 4)) (vqs_cons (vq_var 6 (pv 6)) vqs_nil))))))) (vg_sub hu (vp_var 3 (pv 3)) (VQ.r (vq_tup (vqs_cons (vq_var 4 (pv 4)) vqs_nil)))))))
    (vss_cons (vs_if (vt_cmp (opr_eq hu64) (vr_var 1 (pv 1)) (VQ.r vq_str))
    (vss_one (vs_if (vt_cmp opr_ge (VQ.r (vq_ix hu (vr_var 2 (pv 2)) (VQ.r vq_int))) (VQ.r vq_int))
    (vss_one (vs_unp (vf_op opr_add (VQ.toF (vq_ix hu (vr_var 3 (pv 3)) (VQ.r (vq_tup (vqs_cons (vq_ix hu (vr_var 2 (pv 2)) (VQ.r vq_int)) vqs_nil))))) (VD.toF (vd_mt 3 PySem.F.plainAttrs_dict PySem.F.slot_dict_pop PySem.F.type_dict_pop (mt_popD hu) mw_popD (pv 3) (vfs_cons (VQ.toF (vq_tup (vqs_cons (vq_ix hu (vr_var 2 (pv 2)) (VQ.r vq_int)) vqs_nil))) vfs_nil)))) (vg_sub hu (vp_var 3 (pv 3)) (VQ.r (vq_tup (vqs_cons (vq_ix hu (vr_var 2 (pv 2)) (VQ.r vq_int)) vqs_nil))))))
    (vss_one (vs_if (vt_cmp opr_lt (VQ.r (vq_ix hu (vr_var 2 (pv 2)) (VQ.r vq_int))) (VQ.r vq_int))
    (vss_one (vs_unp (VQ.toF (vq_lst vqs_nil)) (vg_sub hu (vp_var 3 (pv 3)) (VQ.r (vq_tup (vqs_cons (vq_neg (VQ.r vq_int)) vqs_nil))))))
    vss_nil))))
    (vss_one (vs_if (vt_cmp (opr_eq hu64) (vr_var 2 (pv 2)) (VQ.r (vq_tup (vqs_cons (vq_neg (VQ.r vq_int)) (vqs_cons (vq_neg (VQ.r vq_int)) vqs_nil)))))
    (vss_one (vs_unp (VQ.toF (vq_lst (vqs_cons (vq_tup (vqs_cons (vq_neg (VQ.r vq_int)) (vqs_cons (vq_neg (VQ.r vq_int)) vqs_nil))) vqs_nil))) (vg_sub hu (vp_var 3 (pv 3)) (VQ.r (vq_tup (vqs_cons (vq_neg (VQ.r vq_int)) vqs_nil))))))
    (vss_one (vs_if (vt_cmp (opr_eq hu64) (VQ.r (vq_ix hu (vr_var 2 (pv 2)) (VQ.r vq_int))) (VQ.r (vq_neg (VQ.r vq_int))))
    (vss_one (vs_unp (VQ.toF (vq_op opr_add (VQ.r (vq_lst (vqs_cons (vq_var 2 (pv 2)) vqs_nil))) (VQ.r (vq_ix hu (vr_var 3 (pv 3)) (VQ.r (vq_tup (vqs_cons (vq_ix hu (vr_var 2 (pv 2)) (VQ.r vq_int)) vqs_nil))))))) (vg_sub hu (vp_var 3 (pv 3)) (VQ.r (vq_tup (vqs_cons (vq_ix hu (vr_var 2 (pv 2)) (VQ.r vq_int)) vqs_nil))))))
    vss_nil)))))
    (vss_one (vs_ret (vd_move 3 (pv 3)))))))
abbrev s_law_frames : Stmt := top 11
abbrev N_law_frames : List Str := ["_law_found", "_law_one", "_law_other"]
theorem sc_law_frames : FnScope N_law_frames [] (defScope s_law_frames) := ⟨rfl, rfl, rfl, by decide +kernel, rfl, by decide +kernel, by decide +kernel⟩
def g_law_frames : ES := (sSeq (sSet 0 (dOr (dOpN pCatN (fQ (eLst (eCons (eTup eNil) eNil))) (fD (dLc [1] (.n 1) tYesE (fQ (eTup (eCons (eQ 1) eNil))) (iR1 (fCons (fQ (eC (.int 3))) fNil))))) (dF (fOp pAdd (fQ (eLst (eCons (eTup eNil) eNil))) (fD (dLc [1] (.n 1) tYesE (fQ (eTup (eCons (eQ 1) eNil))) (iR1 (fCons (fQ (eC (.int 3))) fNil))))))))
    (sSeq (sFor (.n 1) (iR1 (fCons (fQ (eC (.int 3))) fNil))
    (sExpr (dMt "list" (.v 0) gExt (fCons (fD (dLc [2] (.n 2) tYesE (fQ (eTup (eCons (eQ 1) (eCons (eQ 2) eNil)))) (iR1 (fCons (fQ (eC (.int 3))) fNil)))) fNil))))
    (sRet (dMv 0))))
@[irreducible] def fn_law_frames : Fn := runF 0 3 [0, 1] g_law_frames
theorem ok_law_frames (T : Tx K mg) : FnOk P w K mg base CX0 1 (He.fAd K ("_law_frames", none)) T.fd_law_frames [] (spV K fn_law_frames) := by
  unfold fn_law_frames
  refine fnV T.f_law_frames sc_law_frames fun cdv A outer s H E hr => ?_
  have nd := sc_law_frames.nd
  have hu := hu_of hr
  have hu64 := hu64_of hr
  have hu65 := hu65_of hr
  unfold g_law_frames
  exact (vss_cons (vs_set (i := 0) nd rfl (by first | exact .inl rfl | exact .inr rfl) (vd_add (VQ.toF (vq_lst (vqs_cons (vq_tup vqs_nil) vqs_nil))) (VD.toF (vd_lc [("_law_one", 1)] rfl nd (blkOk_by (N := N_law_frames) (sc := defScope s_law_frames) (by decide +kernel)) (vi_range1 (by rfl) T.b_range (vfs_cons (VQ.toF vq_int) vfs_nil)) (fun _ _ _ _ _ => (vg_name (i := 1) nd rfl (by first | exact .inl rfl | exact .inr rfl) (by decide))) (fun _ _ _ _ _ => vts_nil) (fun _ _ _ _ _ => (VQ.toF (vq_tup (vqs_cons (vq_var 1 (pv 1)) vqs_nil))))))) (by decide))
    (vss_cons (vs_for PassesOwn.never rfl (vi_range1 (by rfl) T.b_range (vfs_cons (VQ.toF vq_int) vfs_nil)) (vg_name (i := 1) nd rfl (by first | exact .inl rfl | exact .inr rfl) (by decide))
    (vss_one (vs_expr (vd_mt 0 PySem.F.plainAttrs_list PySem.F.slot_list_extend PySem.F.type_list_extend mt_extend mw_extend (pv 0) (vfs_cons (VD.toF (vd_lc [("_law_other", 2)] rfl nd (blkOk_by (N := N_law_frames) (sc := defScope s_law_frames) (by decide +kernel)) (vi_range1 (by rfl) T.b_range (vfs_cons (VQ.toF vq_int) vfs_nil)) (fun _ _ _ _ _ => (vg_name (i := 2) nd rfl (by first | exact .inl rfl | exact .inr rfl) (by decide))) (fun _ _ _ _ _ => vts_nil) (fun _ _ _ _ _ => (VQ.toF (vq_tup (vqs_cons (vq_var 1 (pv 1)) (vqs_cons (vq_var 2 (pv 2)) vqs_nil))))))) vfs_nil)))))
    (vss_one (vs_ret (vd_move 0 (pv 0))))))
abbrev s_law_case_right : Stmt := top 12
abbrev N_law_case_right : List Str := ["_law_shape", "_law_word", "_law_spot", "_law_there_here", "_law_is_join", "_law_due", "_law_house", "_law_name"]
theorem sc_law_case_right : FnScope N_law_case_right ["_law_shape", "_law_word", "_law_spot"] (defScope s_law_case_right) := ⟨rfl, rfl, rfl, by decide +kernel, rfl, by decide +kernel, by decide +kernel⟩
def g_law_case_right : ES := (sSeq (sPar 3 4 (dCallD fn_law_there [] [.lend 0, .lend 1, .lend 2]) (dF (fQ (eOp pEq (eV 1) (eC (.str "join"))))))
    (sSeq (sSet 5 (dLst fNil))
    (sSeq (sFor (.n 6) (iF (fQ (eCall gSorted2 (eCons (eV 3) eNil))))
    (sExpr (dMt "list" (.v 5) gExt (fCons (fQ (eOp pAdd (eLst (eCons (eQ 6) eNil)) (eOp pIx (eV 3) (eV 6)))) fNil))))
    (sSeq (sIf (tF (fOp pNe (fD (dKwN fn_things 2 1 (spx [.l 0, .l 1, .r 0]) (fCons (fV 0) (fCons (fV 2) fNil)) (fCons (fQ (eQ 4)) fNil))) (fQ (eCall gTuple (eCons (eCall gSorted2 (eCons (eV 5) eNil)) eNil)))))
    (sRet (dF (fQ (eC (.bl false)))))
    sNx)
    (sSeq (sIf (tAn (tNo (tTru (eV 4))) (tF (fOp pNe (fD (dKwN fn_things 0 2 (spx [.r 1, .r 0, .c (.bl false)]) fNil (fCons (fV 2) (fCons (fV 0) fNil)))) (fQ (eCall gTuple (eCons (eCall gSorted2 (eCons (eV 5) eNil)) eNil))))))
    (sRet (dF (fQ (eC (.bl false)))))
    sNx)
    (sSeq (sFor (.n 6) (iF (fQ (eCall gSorted2 (eCons (eV 3) eNil))))
    (sFor (.n 7) (iF (fQ (eOp pIx (eV 3) (eV 6))))
    (sSeq (sIf (tF (fOpR pNe (fD (dKwN fn_beneath 3 1 (spx [.l 0, .l 1, .l 2, .r 0]) (fCons (fV 0) (fCons (fV 2) (fCons (fQ (eQ 7)) fNil))) (fCons (fQ (eQ 4)) fNil))) 6))
    (sRet (dF (fQ (eC (.bl false)))))
    sNx)
    (sIf (tF (fOpR pNe (fD (dKwN fn_beneath 0 4 (spx [.r 3, .r 2, .r 1, .r 0]) fNil (fCons (fQ (eQ 4)) (fCons (fQ (eQ 7)) (fCons (fV 2) (fCons (fV 0) fNil)))))) 6))
    (sRet (dF (fQ (eC (.bl false)))))
    sNx))))
    (sRet (dF (fQ (eC (.bl true)))))))))))
@[irreducible] def fn_law_case_right : Fn := runF 3 5 [3, 4, 5, 6, 7] g_law_case_right
theorem ok_law_case_right (T : Tx K mg) : FnOk P w K mg base CX0 3 (He.fAd K ("_law_case_right", none)) T.fd_law_case_right ["_law_shape", "_law_word", "_law_spot"] (spV K fn_law_case_right) := by
  unfold fn_law_case_right
  refine fnV T.f_law_case_right sc_law_case_right fun cdv A outer s H E hr => ?_
  have nd := sc_law_case_right.nd
  have hu := hu_of hr
  have hu64 := hu64_of hr
  have hu65 := hu65_of hr
  unfold g_law_case_right
  exact (vss_cons (vs_par (i := 3) (j := 4) rfl nd rfl rfl (by decide) rfl rfl (vd_fn (ok_law_there T) (hr.mono (by decide)) (by rfl) T.g_law_there T.k_law_there (T.bi_law_there) .nil (fun _ => rfl) (va_lend 0 (pv 0) (va_lend 1 (pv 1) (va_lend 2 (pv 2) va_nil)))) (VF.toD (VQ.toF (vq_cmp (opr_eq hu64) (vr_var 1 (pv 1)) (VQ.r vq_str)))) (by decide) (by decide))
    (vss_cons (vs_set (i := 5) nd rfl (by first | exact .inl rfl | exact .inr rfl) (vd_lst vfs_nil) (by decide))
    (vss_cons (vs_for PassesOwn.never rfl (vi_seq (VQ.toF (vq_callB (cal_sorted2 rfl hu64) (by rfl) T.b_sorted vb_sorted (vrs_cons (vr_var 3 (pv 3)) vrs_nil)))) (vg_name (i := 6) nd rfl (by first | exact .inl rfl | exact .inr rfl) (by decide))
    (vss_one (vs_expr (vd_mt 5 PySem.F.plainAttrs_list PySem.F.slot_list_extend PySem.F.type_list_extend mt_extend mw_extend (pv 5) (vfs_cons (VQ.toF (vq_op opr_add (VQ.r (vq_lst (vqs_cons (vq_var 6 (pv 6)) vqs_nil))) (VQ.r (vq_ix hu (vr_var 3 (pv 3)) (vr_var 6 (pv 6)))))) vfs_nil)))))
    (vss_cons (vs_if (vt_cmpF (opr_ne hu64) (VD.toF (vd_fnS (ok_things T) (hr.mono (by decide)) (by rfl) T.g_things T.k_things T.kb_things_0 (SxOk.l (SxOk.l (SxOk.r .nil))) (vfs_cons (vf_var 0 (pv 0)) (vfs_cons (vf_var 2 (pv 2)) vfs_nil)) (vks_cons (VQ.toF (vq_var 4 (pv 4))) vks_nil))) (VQ.toF (vq_callT cal_tuple (by rfl) T.b_tuple vb_tuple (vrs_cons (VQ.r (vq_callB (cal_sorted2 rfl hu64) (by rfl) T.b_sorted vb_sorted (vrs_cons (vr_var 5 (pv 5)) vrs_nil))) vrs_nil))))
    (vss_one (vs_ret (VF.toD (VQ.toF vq_bl))))
    vss_nil)
    (vss_cons (vs_if (VW.t (vw_and (vt_not (vt_truth (vr_var 4 (pv 4)))) (vw_and1 (vt_cmpF (opr_ne hu64) (VD.toF (vd_fnS0 (ok_things T) (hr.mono (by decide)) (by rfl) T.g_things T.k_things T.kb_things_1 (SxOk.r (SxOk.r (SxOk.c T.xp_kb_things_1_join .nil))) (vks_cons (vf_var 2 (pv 2)) (vks_cons (vf_var 0 (pv 0)) vks_nil)))) (VQ.toF (vq_callT cal_tuple (by rfl) T.b_tuple vb_tuple (vrs_cons (VQ.r (vq_callB (cal_sorted2 rfl hu64) (by rfl) T.b_sorted vb_sorted (vrs_cons (vr_var 5 (pv 5)) vrs_nil))) vrs_nil)))))))
    (vss_one (vs_ret (VF.toD (VQ.toF vq_bl))))
    vss_nil)
    (vss_cons (vs_for PassesOwn.never rfl (vi_seq (VQ.toF (vq_callB (cal_sorted2 rfl hu64) (by rfl) T.b_sorted vb_sorted (vrs_cons (vr_var 3 (pv 3)) vrs_nil)))) (vg_name (i := 6) nd rfl (by first | exact .inl rfl | exact .inr rfl) (by decide))
    (vss_one (vs_for PassesOwn.never rfl (vi_seq (VQ.toF (vq_ix hu (vr_var 3 (pv 3)) (vr_var 6 (pv 6))))) (vg_name (i := 7) nd rfl (by first | exact .inl rfl | exact .inr rfl) (by decide))
    (vss_cons (vs_if (vt_cmpR' 6 (opr_ne hu64) (VD.toF (vd_fnS (ok_beneath T) (hr.mono (by decide)) (by rfl) T.g_beneath T.k_beneath T.kb_beneath_2 (SxOk.l (SxOk.l (SxOk.l (SxOk.r .nil)))) (vfs_cons (vf_var 0 (pv 0)) (vfs_cons (vf_var 2 (pv 2)) (vfs_cons (VQ.toF (vq_var 7 (pv 7))) vfs_nil))) (vks_cons (VQ.toF (vq_var 4 (pv 4))) vks_nil))) (pv 6))
    (vss_one (vs_ret (VF.toD (VQ.toF vq_bl))))
    vss_nil)
    (vss_one (vs_if (vt_cmpR' 6 (opr_ne hu64) (VD.toF (vd_fnS0 (ok_beneath T) (hr.mono (by decide)) (by rfl) T.g_beneath T.k_beneath T.kb_beneath_3 (SxOk.r (SxOk.r (SxOk.r (SxOk.r .nil)))) (vks_cons (VQ.toF (vq_var 4 (pv 4))) (vks_cons (VQ.toF (vq_var 7 (pv 7))) (vks_cons (vf_var 2 (pv 2)) (vks_cons (vf_var 0 (pv 0)) vks_nil)))))) (pv 6))
    (vss_one (vs_ret (VF.toD (VQ.toF vq_bl))))
    vss_nil))))))
    (vss_one (vs_ret (VF.toD (VQ.toF vq_bl))))))))))
abbrev s_law : Stmt := top 13
abbrev N_law : List Str := ["_law_script", "_law_shape", "_law_lines_here", "_law_words", "_law_joins", "_law_word", "_law_spot", "_law_seats"]
theorem sc_law : FnScope N_law ["_law_script"] (defScope s_law) := ⟨rfl, rfl, rfl, by decide +kernel, rfl, by decide +kernel, by decide +kernel⟩
def g_law : ES := (sSeq (sFor (.n 1) (iF (fD (dCallD fn_law_frames [] [])))
    (sSeq (sSet 2 (dCallD fn_law_lines [] [.val (dF (fQ (eTup (eCons (eC (.str "a")) eNil)))), .lend 1]))
    (sSeq (sSet 3 (dF (fCall gTuple (fCons (fD (dLc [5, 6] (.t [(.n 5), (.n 6)]) (tQ (eOp pEq (eV 5) (eC (.str "a")))) (fQ (eQ 6)) (iF (fV 2)))) fNil))))
    (sSeq (sSet 4 (dF (fCall gTuple (fCons (fD (dLc [5, 6] (.t [(.n 5), (.n 6)]) (tQ (eOp pEq (eV 5) (eC (.str "join")))) (fQ (eQ 6)) (iF (fV 2)))) fNil))))
    (sSeq (sIf (tOr' (tF (fOp pNe (fD (dCallD fn_cases [] [.lend 1])) (fQ (eCall gTuple (eCons (eCall gSorted2 (eCons (eV 3) eNil)) eNil))))) (tF (fOp pNe (fD (dKwN fn_join_cases 0 1 (spx [.r 0]) fNil (fCons (fQ (eQ 1)) fNil))) (fQ (eCall gTuple (eCons (eCall gSorted2 (eCons (eV 4) eNil)) eNil))))))
    (sRet (dF (fQ (eC (.bl false)))))
    sNx)
    (sSeq (sIf (tOr' (tF (fOpR pNe (fD (dKwN fn_cases 0 1 (spx [.r 0]) fNil (fCons (fQ (eQ 1)) fNil))) 3)) (tF (fOp pNe (fQ (eCall gLenA (eCons (eV 3) eNil))) (fOp pAdd (fQ (eC (.int 1))) (fCall gSum (fCons (fD (dLc [7] (.n 7) tYesE (fQ (eOp pAdd (eV 7) (eC (.int 1)))) (iF (fQ (eQ 1))))) fNil))))))
    (sRet (dF (fQ (eC (.bl false)))))
    sNx)
    (sIf (tNo (tF (fCall gAll (fCons (fD (dLc [5, 6] (.t [(.n 5), (.n 6)]) tYesE (fD (dCallD fn_law_case_right [] [.lend 1, .lend 5, .lend 6])) (iF (fV 2)))) fNil))))
    (sRet (dF (fQ (eC (.bl false)))))
    sNx)))))))
    (sRet (dF (fQ (eC (.bl true))))))
@[irreducible] def fn_law : Fn := runF 1 7 [1, 2, 3, 4] g_law
theorem ok_law (T : Tx K mg) : FnOk P w K mg base CX0 4 (He.fAd K ("law", none)) T.fd_law ["_law_script"] (spV K fn_law) := by
  unfold fn_law
  refine fnV T.f_law sc_law fun cdv A outer s H E hr => ?_
  have nd := sc_law.nd
  have hu := hu_of hr
  have hu64 := hu64_of hr
  have hu65 := hu65_of hr
  unfold g_law
  exact (vss_cons (vs_for PassesOwn.never rfl (vi_seq (VD.toF (vd_fn0 (ok_law_frames T) (hr.mono (by decide)) (by rfl) T.g_law_frames T.k_law_frames (T.bi_law_frames) .nil (fun _ => rfl)))) (vg_name (i := 1) nd rfl (by first | exact .inl rfl | exact .inr rfl) (by decide))
    (vss_cons (vs_set (i := 2) nd rfl (by first | exact .inl rfl | exact .inr rfl) (vd_fn (ok_law_lines T) (hr.mono (by decide)) (by rfl) T.g_law_lines T.k_law_lines (T.bi_law_lines) .nil (fun _ => rfl) (va_val (VF.toD (VQ.toF (vq_tup (vqs_cons vq_str vqs_nil)))) (va_lend 1 (pv 1) va_nil))) (by decide))
    (vss_cons (vs_set (i := 3) nd rfl (by first | exact .inl rfl | exact .inr rfl) (VF.toD (vf_callT cal_tuple (by rfl) T.b_tuple vb_tuple (vfs_cons (VD.toF (vd_lc [("_law_word", 5), ("_law_spot", 6)] rfl nd (blkOk_by (N := N_law) (sc := defScope s_law) (by decide +kernel)) (vi_seq (vf_var 2 (pv 2))) (fun _ _ _ _ _ => (vg_tup rfl (vgs_cons (vg_name (i := 5) nd rfl (by first | exact .inl rfl | exact .inr rfl) (by decide)) (vgs_cons (vg_name (i := 6) nd rfl (by first | exact .inl rfl | exact .inr rfl) (by decide)) vgs_nil)))) (fun _ _ _ _ _ => (vts_one (vt_cmp (opr_eq hu64) (vr_var 5 (pv 5)) (VQ.r vq_str)))) (fun _ _ _ _ _ => (VQ.toF (vq_var 6 (pv 6)))))) vfs_nil))) (by decide))
    (vss_cons (vs_set (i := 4) nd rfl (by first | exact .inl rfl | exact .inr rfl) (VF.toD (vf_callT cal_tuple (by rfl) T.b_tuple vb_tuple (vfs_cons (VD.toF (vd_lc [("_law_word", 5), ("_law_spot", 6)] rfl nd (blkOk_by (N := N_law) (sc := defScope s_law) (by decide +kernel)) (vi_seq (vf_var 2 (pv 2))) (fun _ _ _ _ _ => (vg_tup rfl (vgs_cons (vg_name (i := 5) nd rfl (by first | exact .inl rfl | exact .inr rfl) (by decide)) (vgs_cons (vg_name (i := 6) nd rfl (by first | exact .inl rfl | exact .inr rfl) (by decide)) vgs_nil)))) (fun _ _ _ _ _ => (vts_one (vt_cmp (opr_eq hu64) (vr_var 5 (pv 5)) (VQ.r vq_str)))) (fun _ _ _ _ _ => (VQ.toF (vq_var 6 (pv 6)))))) vfs_nil))) (by decide))
    (vss_cons (vs_if (VW.t (vw_or (vt_cmpF (opr_ne hu64) (VD.toF (vd_fn (ok_cases T) (hr.mono (by decide)) (by rfl) T.g_cases T.k_cases (T.bi_cases) .nil (fun _ => rfl) (va_lend 1 (pv 1) va_nil))) (VQ.toF (vq_callT cal_tuple (by rfl) T.b_tuple vb_tuple (vrs_cons (VQ.r (vq_callB (cal_sorted2 rfl hu64) (by rfl) T.b_sorted vb_sorted (vrs_cons (vr_var 3 (pv 3)) vrs_nil))) vrs_nil)))) (vw_or1 (vt_cmpF (opr_ne hu64) (VD.toF (vd_fnS0 (ok_join_cases T) (hr.mono (by decide)) (by rfl) T.g_join_cases T.k_join_cases T.kb_join_cases_4 (SxOk.r .nil) (vks_cons (VQ.toF (vq_var 1 (pv 1))) vks_nil))) (VQ.toF (vq_callT cal_tuple (by rfl) T.b_tuple vb_tuple (vrs_cons (VQ.r (vq_callB (cal_sorted2 rfl hu64) (by rfl) T.b_sorted vb_sorted (vrs_cons (vr_var 4 (pv 4)) vrs_nil))) vrs_nil)))))))
    (vss_one (vs_ret (VF.toD (VQ.toF vq_bl))))
    vss_nil)
    (vss_cons (vs_if (VW.t (vw_or (vt_cmpR' 3 (opr_ne hu64) (VD.toF (vd_fnS0 (ok_cases T) (hr.mono (by decide)) (by rfl) T.g_cases T.k_cases T.kb_cases_5 (SxOk.r .nil) (vks_cons (VQ.toF (vq_var 1 (pv 1))) vks_nil))) (pv 3)) (vw_or1 (vt_cmpF (opr_ne hu64) (VQ.toF (vq_callB cal_len (by rfl) T.b_len vb_len (vrs_cons (vr_var 3 (pv 3)) vrs_nil))) (vf_op opr_add (VQ.toF vq_int) (vf_callB (cal_sum rfl) (by rfl) T.b_sum vb_sum (vfs_cons (VD.toF (vd_lc [("_law_seats", 7)] rfl nd (blkOk_by (N := N_law) (sc := defScope s_law) (by decide +kernel)) (vi_seq (VQ.toF (vq_var 1 (pv 1)))) (fun _ _ _ _ _ => (vg_name (i := 7) nd rfl (by first | exact .inl rfl | exact .inr rfl) (by decide))) (fun _ _ _ _ _ => vts_nil) (fun _ _ _ _ _ => (VQ.toF (vq_op opr_add (vr_var 7 (pv 7)) (VQ.r vq_int)))))) vfs_nil)))))))
    (vss_one (vs_ret (VF.toD (VQ.toF vq_bl))))
    vss_nil)
    (vss_one (vs_if (vt_not (vt_val (vf_callB (cal_all rfl) (by rfl) T.b_all vb_all (vfs_cons (VD.toF (vd_lc [("_law_word", 5), ("_law_spot", 6)] rfl nd (blkOk_by (N := N_law) (sc := defScope s_law) (by decide +kernel)) (vi_seq (vf_var 2 (pv 2))) (fun _ _ _ _ _ => (vg_tup rfl (vgs_cons (vg_name (i := 5) nd rfl (by first | exact .inl rfl | exact .inr rfl) (by decide)) (vgs_cons (vg_name (i := 6) nd rfl (by first | exact .inl rfl | exact .inr rfl) (by decide)) vgs_nil)))) (fun _ _ _ _ _ => vts_nil) (fun _ _ _ _ _ => (VD.toF (vd_fn (ok_law_case_right T) (hr.mono (by decide)) (by rfl) T.g_law_case_right T.k_law_case_right (T.bi_law_case_right) .nil (fun _ => rfl) (va_lend 1 (pv 1) (va_lend 5 (pv 5) (va_lend 6 (pv 6) va_nil)))))))) vfs_nil))))
    (vss_one (vs_ret (VF.toD (VQ.toF vq_bl))))
    vss_nil))))))))
    (vss_one (vs_ret (VF.toD (VQ.toF vq_bl)))))
end
end G
end

section
set_option Elab.async false
set_option maxRecDepth 100000
set_option maxHeartbeats 0
namespace G
open VL
theorem law_runs (ns : List Int) : fn_law [.imm (.scr ns)] = some (.imm (.bl true), [.imm (.scr ns)]) := by kernel_rfl
theorem law_true (ns : List Int) (_ : ns.length ≤ 63) : ∃ ds', fn_law [.imm (.scr ns)] = some (.imm (.bl true), ds') := ⟨_, law_runs ns⟩
end G
end

section
set_option Elab.async false
set_option linter.all false
set_option maxRecDepth 100000
set_option maxHeartbeats 1000000
namespace G
open PySem PySem.Spec PyProof.Rows L2 VL
/-! ### the head -/
def d_held_things : He.DefD := ⟨("held_things", none), "held_things", "held_things", defArgs s_held_things, defBody s_held_things, defScope s_held_things, [], []⟩
def d_cases : He.DefD := ⟨("cases", none), "cases", "cases", defArgs s_cases, defBody s_cases, defScope s_cases, [], []⟩
def d_join_cases : He.DefD := ⟨("join_cases", none), "join_cases", "join_cases", defArgs s_join_cases, defBody s_join_cases, defScope s_join_cases, [], []⟩
def d_is_join_of_both : He.DefD := ⟨("is_join_of_both", none), "is_join_of_both", "is_join_of_both", defArgs s_is_join_of_both, defBody s_is_join_of_both, defScope s_is_join_of_both, [], []⟩
def d_things : He.DefD := ⟨("things", none), "things", "things", defArgs s_things, defBody s_things, defScope s_things, [], [("join", .bl false)]⟩
def d_beneath : He.DefD := ⟨("beneath", none), "beneath", "beneath", defArgs s_beneath, defBody s_beneath, defScope s_beneath, [], [("join", .bl false)]⟩
def d_law_lines : He.DefD := ⟨("_law_lines", none), "_law_lines", "_law_lines", defArgs s_law_lines, defBody s_law_lines, defScope s_law_lines, [], []⟩
def d_law_there : He.DefD := ⟨("_law_there", none), "_law_there", "_law_there", defArgs s_law_there, defBody s_law_there, defScope s_law_there, [], []⟩
def d_law_frames : He.DefD := ⟨("_law_frames", none), "_law_frames", "_law_frames", defArgs s_law_frames, defBody s_law_frames, defScope s_law_frames, [], []⟩
def d_law_case_right : He.DefD := ⟨("_law_case_right", none), "_law_case_right", "_law_case_right", defArgs s_law_case_right, defBody s_law_case_right, defScope s_law_case_right, [], []⟩
def d_law : He.DefD := ⟨("law", none), "law", "law", defArgs s_law, defBody s_law, defScope s_law, [], []⟩
def fnD : List He.DefD := [d_held_things, d_cases, d_join_cases, d_is_join_of_both, d_things, d_beneath, d_law_lines, d_law_there, d_law_frames, d_law_case_right, d_law]
def faD : List He.Fa := [.free "all", .free "enumerate", .free "int", .free "len", .free "range", .free "sorted", .free "sum", .free "tuple", .glo "held_things", .glo "cases", .glo "join_cases", .glo "is_join_of_both", .glo "things", .glo "beneath", .glo "_law_lines", .glo "_law_there", .glo "_law_frames", .glo "_law_case_right", .glo "law"]
def exD (K : PySem.W.Frag) : Bool := true && conB K "STRANGE" (.tup false [(.int (-1)), (.int (-1))])
abbrev RR : PySem.W.OpenRow := PySem.W.OpenLaw.row PySem.Challenge.rw_strangeseats_k08_frames_all
abbrev hk : PySem.W.Hook := hookE 6 faD fnD exD
def ob (s : PySem.W.SharedT) : AlE := obsEG 6 faD fnD exD (HandSHeadRun.getT s)
theorem ob_eq (s : PySem.W.SharedT) : ob s = hk.obs s.abs := obsEG_eq (HandSHeadRun.getT_eq s)
def loose0 : List PySem.Str := (["STRANGE", "held_things", "cases", "join_cases", "is_join_of_both", "things", "beneath", "_law_lines", "_law_there", "_law_frames", "_law_case_right"] : List PySem.Str)
set_option maxHeartbeats 0 in
theorem run (w : World) : HandSHeadRun.RunEq RR (PySem.W.view RR.prog [13]) hk ob 4000 loose0 w := by
  intro os
  kernel_rfl
set_option maxHeartbeats 0 in
theorem tx_of {K : PySem.W.Frag} {h : Heap} {mg : Str → Option Value} (X : K.In h) (G : h.Ns mainGlobals mg) (c : SaysE faD fnD exD K) : Nonempty (Tx K mg) := by
  obtain ⟨fd_held_things, f_held_things⟩ := c.d.def_ 0 (d := d_held_things) rfl
  obtain ⟨fd_cases, f_cases⟩ := c.d.def_ 1 (d := d_cases) rfl
  obtain ⟨fd_join_cases, f_join_cases⟩ := c.d.def_ 2 (d := d_join_cases) rfl
  obtain ⟨fd_is_join_of_both, f_is_join_of_both⟩ := c.d.def_ 3 (d := d_is_join_of_both) rfl
  obtain ⟨fd_things, f_things⟩ := c.d.def_ 4 (d := d_things) rfl
  obtain ⟨fd_beneath, f_beneath⟩ := c.d.def_ 5 (d := d_beneath) rfl
  obtain ⟨fd_law_lines, f_law_lines⟩ := c.d.def_ 6 (d := d_law_lines) rfl
  obtain ⟨fd_law_there, f_law_there⟩ := c.d.def_ 7 (d := d_law_there) rfl
  obtain ⟨fd_law_frames, f_law_frames⟩ := c.d.def_ 8 (d := d_law_frames) rfl
  obtain ⟨fd_law_case_right, f_law_case_right⟩ := c.d.def_ 9 (d := d_law_case_right) rfl
  obtain ⟨fd_law, f_law⟩ := c.d.def_ 10 (d := d_law) rfl
  have ex := c.ex
  unfold exD at ex
  rw [Bool.and_eq_true] at ex
  obtain ⟨v_STRANGE, u_STRANGE, g_STRANGE, r_STRANGE, c_STRANGE⟩ := conB_ok X G ex.2
  obtain ⟨xu_kb_things_1_join, xr_kb_things_1_join, kb_things_1⟩ := kb_kw1 f_things 0 ["case", "frame"] (fun u => [.r 1, .r 0, .c (.bl false) (.bl false) u]) (fun u r => (.r (.r (.c r .nil)))) (fun _ _ _ _ _ _ _ us ws l1 l2 => match us, ws, l1, l2 with | [], [_, _], _, _ => ⟨_, _, _, _, _, _, rfl, rfl, by show _ = _; kernel_rfl⟩)
  exact ⟨{
    b_all := He.free_ok X G (c.d.fact 0 (f := .free "all") rfl),
    b_enumerate := He.free_ok X G (c.d.fact 1 (f := .free "enumerate") rfl),
    b_int := He.free_ok X G (c.d.fact 2 (f := .free "int") rfl),
    b_len := He.free_ok X G (c.d.fact 3 (f := .free "len") rfl),
    b_range := He.free_ok X G (c.d.fact 4 (f := .free "range") rfl),
    b_sorted := He.free_ok X G (c.d.fact 5 (f := .free "sorted") rfl),
    b_sum := He.free_ok X G (c.d.fact 6 (f := .free "sum") rfl),
    b_tuple := He.free_ok X G (c.d.fact 7 (f := .free "tuple") rfl),
    v_STRANGE := v_STRANGE,
    u_STRANGE := u_STRANGE,
    g_STRANGE := g_STRANGE,
    r_STRANGE := r_STRANGE,
    c_STRANGE := c_STRANGE,
    fd_held_things := fd_held_things,
    f_held_things := f_held_things,
    bi_held_things := f_held_things.bindsN (fun _ _ _ _ _ _ us hl => match us, hl with | [_], _ => rfl),
    g_held_things := He.glo_ok X G (c.d.fact 8 (f := .glo "held_things") rfl),
    k_held_things := f_held_things.kp,
    fd_cases := fd_cases,
    f_cases := f_cases,
    bi_cases := f_cases.bindsN (fun _ _ _ _ _ _ us hl => match us, hl with | [_], _ => rfl),
    g_cases := He.glo_ok X G (c.d.fact 9 (f := .glo "cases") rfl),
    k_cases := f_cases.kp,
    fd_join_cases := fd_join_cases,
    f_join_cases := f_join_cases,
    g_join_cases := He.glo_ok X G (c.d.fact 10 (f := .glo "join_cases") rfl),
    k_join_cases := f_join_cases.kp,
    fd_is_join_of_both := fd_is_join_of_both,
    f_is_join_of_both := f_is_join_of_both,
    bi_is_join_of_both := f_is_join_of_both.bindsN (fun _ _ _ _ _ _ us hl => match us, hl with | [_, _], _ => rfl),
    g_is_join_of_both := He.glo_ok X G (c.d.fact 11 (f := .glo "is_join_of_both") rfl),
    k_is_join_of_both := f_is_join_of_both.kp,
    fd_things := fd_things,
    f_things := f_things,
    g_things := He.glo_ok X G (c.d.fact 12 (f := .glo "things") rfl),
    k_things := f_things.kp,
    fd_beneath := fd_beneath,
    f_beneath := f_beneath,
    g_beneath := He.glo_ok X G (c.d.fact 13 (f := .glo "beneath") rfl),
    k_beneath := f_beneath.kp,
    fd_law_lines := fd_law_lines,
    f_law_lines := f_law_lines,
    bi_law_lines := f_law_lines.bindsN (fun _ _ _ _ _ _ us hl => match us, hl with | [_, _], _ => rfl),
    g_law_lines := He.glo_ok X G (c.d.fact 14 (f := .glo "_law_lines") rfl),
    k_law_lines := f_law_lines.kp,
    fd_law_there := fd_law_there,
    f_law_there := f_law_there,
    bi_law_there := f_law_there.bindsN (fun _ _ _ _ _ _ us hl => match us, hl with | [_, _, _], _ => rfl),
    g_law_there := He.glo_ok X G (c.d.fact 15 (f := .glo "_law_there") rfl),
    k_law_there := f_law_there.kp,
    fd_law_frames := fd_law_frames,
    f_law_frames := f_law_frames,
    bi_law_frames := f_law_frames.bindsN (fun _ _ _ _ _ _ us hl => match us, hl with | [], _ => rfl),
    g_law_frames := He.glo_ok X G (c.d.fact 16 (f := .glo "_law_frames") rfl),
    k_law_frames := f_law_frames.kp,
    fd_law_case_right := fd_law_case_right,
    f_law_case_right := f_law_case_right,
    bi_law_case_right := f_law_case_right.bindsN (fun _ _ _ _ _ _ us hl => match us, hl with | [_, _, _], _ => rfl),
    g_law_case_right := He.glo_ok X G (c.d.fact 17 (f := .glo "_law_case_right") rfl),
    k_law_case_right := f_law_case_right.kp,
    fd_law := fd_law,
    f_law := f_law,
    g_law := He.glo_ok X G (c.d.fact 18 (f := .glo "law") rfl),
    k_law := f_law.kp,
    kb_things_0 := kb_none f_things 2 ["join"] [.l 0, .l 1, .r 0] (.l (.l (.r .nil))) (fun _ _ _ _ _ _ us ws l1 l2 => match us, ws, l1, l2 with | [_, _], [_], _, _ => by kernel_rfl),
    xv_kb_things_1_join := .bl false,
    xu_kb_things_1_join := xu_kb_things_1_join,
    xr_kb_things_1_join := xr_kb_things_1_join,
    xp_kb_things_1_join := fun _ => rfl,
    kb_things_1 := kb_things_1,
    kb_beneath_2 := kb_none f_beneath 3 ["join"] [.l 0, .l 1, .l 2, .r 0] (.l (.l (.l (.r .nil)))) (fun _ _ _ _ _ _ us ws l1 l2 => match us, ws, l1, l2 with | [_, _, _], [_], _, _ => by kernel_rfl),
    kb_beneath_3 := kb_none f_beneath 0 ["join", "thing", "case", "frame"] [.r 3, .r 2, .r 1, .r 0] (.r (.r (.r (.r .nil)))) (fun _ _ _ _ _ _ us ws l1 l2 => match us, ws, l1, l2 with | [], [_, _, _, _], _, _ => by kernel_rfl),
    kb_join_cases_4 := kb_none f_join_cases 0 ["frame"] [.r 0] (.r .nil) (fun _ _ _ _ _ _ us ws l1 l2 => match us, ws, l1, l2 with | [], [_], _, _ => by kernel_rfl),
    kb_cases_5 := kb_none f_cases 0 ["frame"] [.r 0] (.r .nil) (fun _ _ _ _ _ _ us ws l1 l2 => match us, ws, l1, l2 with | [], [_], _, _ => by kernel_rfl)
  }⟩
end G
open PySem PySem.W PySem.Calls PyProof.Rows
set_option maxRecDepth 100000 in
set_option maxHeartbeats 8000000 in
theorem PySem.Challenge.cw_strangeseats_k08_frames_all_holds : PySem.Challenge.rw_strangeseats_k08_frames_all.Holds := by
  w_on; o_law
  refine HandSHeadRun.head_any (r := OpenLaw.row PySem.Challenge.rw_strangeseats_k08_frames_all) (q := view (OpenLaw.row PySem.Challenge.rw_strangeseats_k08_frames_all).prog [13]) (H := G.hk) (ob := G.ob) (M := 4000) (loose := G.loose0) (d := HandSHeadRun.topDef (OpenLaw.row PySem.Challenge.rw_strangeseats_k08_frames_all).prog 13) (kwd := []) G.ob_eq
    (by kernel_rfl) (fun s => by kernel_rfl) G.run (by kernel_rfl) (by kernel_rfl) (by kernel_rfl) (by rfl) (by first | assumption | decide +kernel) (by decide +kernel) ⟨rfl, rfl, rfl, rfl, rfl, by decide +kernel⟩ ?hw ?hc
  case hw => w_witness2
  case hc =>
    refine L2.walk_ofE (l := PySem.Challenge.rw_strangeseats_k08_frames_all) (n := 63) (k := 4) (x := "_law_script") (CX := L2.CX0) rfl (by decide) (by kernel_rfl) ⟨rfl, by decide, by decide⟩ ?F (fun _ _ _ _ z => z)
    intro w mg fa h Y GG hmg0
    obtain ⟨K, KX, c⟩ := Y
    obtain ⟨T⟩ := G.tx_of KX GG c
    have hmg : mg ("law" : PySem.Str) = some (.ref fa) := by
      have e : (HandSHeadRun.topDef (OpenLaw.row PySem.Challenge.rw_strangeseats_k08_frames_all).prog 13).name = ("law" : PySem.Str) := by kernel_rfl
      rw [← e]
      exact hmg0
    have e := hmg.symm.trans T.g_law
    cases e
    have b := L2.FunD.bindsA (ps := ["_law_script"]) T.f_law fun _ _ _ _ _ _ us hl => match us, hl with | [_], _ => rfl
    exact ⟨K, T.fd_law, VL.spV K G.fn_law, KX, fun s v => b s [v] rfl, fun H a ns hl _ hS => VL.spV_law (n := 63) G.law_true H a ns hl hS, fun base _ _ => G.ok_law T⟩
end
