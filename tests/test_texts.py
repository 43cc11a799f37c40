"""Point 25: machines and histories as texts."""

import random
import re
import unittest

from makers import ODD_THINGS, same, slow_houses, slow_lines, slow_things, some_frames, some_history, some_machine
from strangeseats.errors import NoText, Refused
from strangeseats.letters import is_history
from strangeseats.texts import read_history, read_machine, show_history, show_machine
from test_machines import BIG, SMALL, plain_machine, slow_is_machine

NUMBER = "(?:0|[1-9][0-9]{0,8})"
NAME = "[a-z]{1,8}"
WRITTEN = {(-1,): "h", (0,): "h0", (1,): "h1", (-1, -1): "n", (0, -1): "n0", (1, -1): "n1"}
WRITTEN.update({(at, seat): f"n{at}.{seat}" for at in (0, 1) for seat in (0, 1)})
JOINS = {(-1, -1): "h h", (-1, 0): "h h0", (-1, 1): "h h1", (0, 1): "h0 h1"}
TEXT = """words a
stand
a n > 2 h n : x n h
join h h > 0 : y h
stand 1 0
a n > 0 : x h h1
a n0 > 2 h0 n0 : x n0 n0.0
a n0.0 > 1 h0 n0.0 h1 : x n0.0
a n1 > 1 h1 n1 h0 : x n1 n1
join h h > 2 h0 n0.0 : y h
join h h0 > 1 h0 n0.0 h1 : z
join h h1 > 1 h0 n0.0 h1 : z
join h0 h1 > 2 h0 n0.0 : z h0 n0.0
stand 1
a n > 1 h0 n0.0 h : x
a n0 > 2 h0 n0 : x
a n0.0 > 2 h0 n0.0 : x n0.0
join h h > 2 h0 n0.0 : y h
join h h0 > 2 h0 n0.0 : y h0"""


def is_name(text):
    return re.fullmatch(NAME, text) is not None and text != "join"


def slow_rule(row, frame, line):
    """The rule of a row, or None, by its form told otherwise."""
    word, case = line
    head = re.escape(f"{word} {JOINS[case] if word == 'join' else WRITTEN[case]} > ")
    found = re.fullmatch(head + f"({NUMBER})((?: [hn][0-9.]*)*) : ({NAME})((?: [hn][0-9.]*){{0,2}})", row)
    if found is None or found[3] == "join":
        return None
    there = {WRITTEN[thing]: thing for thing in slow_things(frame, line)}
    fill, said = found[2].split(), found[4].split()
    if not set(fill + said) <= set(there) or len(set(fill)) != len(fill):
        return None
    rows = []
    for part in fill:
        if part[0] == "h":
            rows.append((there[part], ()))
        elif not rows or there[part] not in slow_houses(frame, line)[rows[-1][0]]:
            return None
        else:
            rows[-1] = (rows[-1][0], rows[-1][1] + (there[part],))
    return (int(found[1]), tuple(rows), (found[3],) + tuple(there[part] for part in said))


def slow_read(text):
    """The machine of a text, or the number with which it is refused."""
    rows = text.split("\n")
    words = tuple(rows[0].split(" ")[1:])
    if re.fullmatch(f"words(?: {NAME}){{1,3}}", rows[0]) is None or not all(map(is_name, words)):
        return 0
    if list(words) != sorted(set(words)):
        return 0
    at, stands = 1, []
    while at < len(rows) or not stands:
        if at >= len(rows) or re.fullmatch("stand(?: [012]){0,2}", rows[at]) is None:
            return at
        frame = tuple(int(part) for part in rows[at].split(" ")[1:])
        rules = []
        for line in slow_lines(words, frame):
            at += 1
            rules.append(slow_rule(rows[at], frame, line) if at < len(rows) else None)
            if rules[-1] is None:
                return at
        stands.append((frame, tuple(rules)))
        at += 1
    machine = (words, tuple(stands))
    return machine if slow_is_machine(machine) else len(rows)


def told(text):
    try:
        return read_machine(text)
    except NoText as error:
        return error.row


OTHER_WORDS = (
    "", "x", "h", "h0", "h1", "h2", "h00", "h-1", "n", "n0", "n1", "n2", "n0.0", "n0.1", "n1.0", "n0.", "n.0", "n0.00", "0", "1",
    "2", "3", "7", "00", "01", "-1", "+1", "1.0", "123456789", "1234567890", "\u0661", "\u00b2", ">", ":", "join", "words",
    "stand", "A", "abcdefgh", "abcdefghi", "a", "k", "\t", "x\t", "x\r", "a b", "h0 n0.0", "\u00e9",
)


def texts_spoilt(text, chance, share):
    rows = text.split("\n")
    for at in range(len(rows)):
        yield "\n".join(rows[:at] + rows[at + 1:])
        yield "\n".join(rows[:at + 1] + rows[at:])
        yield "\n".join(rows[:at])
        yield "\n".join(rows[:at] + [""] + rows[at:])
        if at:
            yield "\n".join(rows[:at - 1] + [rows[at], rows[at - 1]] + rows[at + 1:])
        for row in rows_spoilt(rows[at]):
            if chance.random() < share:
                yield "\n".join(rows[:at] + [row] + rows[at + 1:])
    yield from (text + "\n", "\n" + text, text + " ", " " + text, text.replace("\n", "\r\n"), text.replace(" ", "  "), text.upper())


def rows_spoilt(row):
    words = row.split(" ")
    for at in range(len(words)):
        yield " ".join(words[:at] + words[at + 1:])
        yield " ".join(words[:at + 1] + words[at:])
        yield " ".join(words[:at] + ["", words[at]] + words[at + 1:])
        for other in OTHER_WORDS:
            yield " ".join(words[:at] + [other] + words[at + 1:])
    yield from (row + " ", " " + row, row + " x", row + " h", row + " n0.0")


class MachineTexts(unittest.TestCase):
    def test_a_text(self):
        self.assertEqual(show_machine(BIG), TEXT)
        self.assertEqual(show_machine(machine=SMALL), "words a\nstand\na n > 0 : x\njoin h h > 0 : y h")
        self.assertTrue(same(read_machine(TEXT), BIG))
        self.assertTrue(same(read_machine(text=show_machine(SMALL)), SMALL))

    def test_every_machine_is_read_again(self):
        chance = random.Random(101)
        for _ in range(80):
            words = chance.choice((("a",), ("a", "k"), ("abcdefgh", "joins", "z")))
            machine = some_machine(chance, words, some_frames(chance, 7)[:6], ("x", "words", "stand"))
            text = show_machine(machine)
            self.assertIs(type(text), str)
            self.assertTrue(same(read_machine(text), machine))
            self.assertTrue(same(slow_read(text), machine))

    def test_texts_spoilt(self):
        chance = random.Random(102)
        right = 0
        machines = [(SMALL, 1), (BIG, 0.6), (some_machine(chance, ("a", "k"), ((), (2, 1), (1, 2), (0, 0))), 0.15)]
        for machine, share in machines:
            for text in texts_spoilt(show_machine(machine), chance, share):
                due = slow_read(text)
                right += type(due) is tuple
                self.assertTrue(same(told(text), due), text)
        self.assertGreater(right, 20)

    def test_the_first_row_that_is_wrong(self):
        for old, new, row in (
            ("words a", "word a", 0), ("words a", "words", 0), ("words a", "words b a", 0), ("words a", "words join", 0),
            ("words a", "words a a", 0), ("words a", "words a b c d", 0), ("words a", "words  a", 0), ("words a", "words A", 0),
            ("words a", "words a b", 3), ("stand\n", "stand \n", 1), ("stand 1 0", "stand 1 3", 4), ("stand 1 0", "stand 1 0 0", 4),
            ("stand 1 0", "stand 01 0", 4), ("stand 1 0", "stand 1  0", 4), ("stand 1 0", "stands 1 0", 4),
            ("a n > 2 h n : x n h", "a n0 > 2 h n : x n h", 2), ("a n > 2 h n : x n h", "b n > 2 h n : x n h", 2),
            ("a n > 2 h n : x n h", "a n > 02 h n : x n h", 2), ("a n > 2 h n : x n h", "a n > 2 h n : x n h h", 2),
            ("a n > 2 h n : x n h", "a n > 2 h n n : x n h", 2), ("a n > 2 h n : x n h", "a n > 2 n h : x n h", 2),
            ("a n > 2 h n : x n h", "a n > 2 h n x n h", 2), ("a n > 2 h n : x n h", "a n > 2 h n :", 2),
            ("a n > 2 h n : x n h", "a n > 2 h n : X n h", 2), ("a n > 2 h n : x n h", "a n > 2 h n : join n h", 2),
            ("a n > 2 h n : x n h", "a n > 2 h n : x n0 h", 2), ("a n > 2 h n : x n h", "a n 2 h n : x n h", 2),
            ("a n1 > 1 h1 n1 h0", "a n1 > 1 h0 n1 h1", 8), ("a n1 > 1 h1 n1 h0", "a n1 > 1 h1 n1 h1", 8),
            ("join h0 h1 > 2 h0", "join h0 h1 > 2 h1", 12), ("join h0 h1", "join h1 h0", 12), ("join h h0 > 1", "join h0 h > 1", 10),
            ("a n > 2 h n : x n h", "a n > 1234567890 h n : x n h", 2),
        ):
            self.assertIn(old, TEXT)
            self.assertEqual(told(TEXT.replace(old, new, 1)), row, new)

    def test_rows_that_are_so_but_no_machine_comes_of_them(self):
        many = len(TEXT.split("\n"))
        for old, new in (
            ("a n > 2 h n : x n h", "a n > 3 h n : x n h"), ("a n > 2 h n : x n h", "a n > 123456789 h n : x n h"),
            ("a n > 2 h n : x n h", "a n > 1 h n : x n h"), ("a n > 2 h n : x n h", "a n > 0 h n : x n h"),
            ("a n > 2 h n : x n h", "a n > 2 h : x n h"), ("a n > 2 h n : x n h", "a n > 2 : x n h"),
            ("a n > 0 : x h h1", "a n > 0 h0 h1 h : x h h1"), ("a n > 1 h0 n0.0 h : x", "a n > 1 h h0 n0.0 : x"),
        ):
            self.assertIn(old, TEXT)
            self.assertEqual(told(TEXT.replace(old, new, 1)), many, new)

    def test_the_first_frame_and_more_than_six_stands(self):
        first, second = plain_machine([(), (1,)])[1]
        self.assertEqual(told(show_machine((("a",), (second, first)))), 10)
        for many in (7, 8, 20):
            self.assertEqual(told(show_machine(plain_machine([()] * many))), 1 + 3 * many)
        self.assertTrue(same(told(show_machine(plain_machine([()] * 6))), plain_machine([()] * 6)))

    def test_rows_missing(self):
        self.assertEqual(told("words a"), 1)
        self.assertEqual(told("words a\nstand"), 2)
        self.assertEqual(told("words a\nstand\na n > 0 : x"), 3)
        self.assertEqual(told("words a\nstand\na n > 0 : x\njoin h h > 0 : y\n"), 4)
        self.assertEqual(told("words a\n"), 1)
        self.assertEqual(told(""), 0)
        self.assertEqual(told("\n"), 0)

    def test_a_seat_twice_and_three_seats(self):
        rows = show_machine(plain_machine([(), (2, 2), (2,)])).split("\n")
        at = rows.index("join h0 h1 > 0 : x")
        for fill, due in (
            ("2 h0 n0.0 n1.1", None), ("2 h0 n0.0 n0.0", at), ("2 h0 n0.0 n0.1 n1.0", len(rows)), ("2 h0 n0.0 h0 n0.1", at),
            ("0 h0", len(rows)),
        ):
            text = "\n".join(rows[:at] + [f"join h0 h1 > {fill} : x"] + rows[at + 1:])
            if due is None:
                self.assertEqual(show_machine(read_machine(text)), text)
            else:
                self.assertEqual(told(text), due)

    def test_what_is_no_text(self):
        for thing in ODD_THINGS + (b"words a\nstand", [TEXT], (TEXT,), BIG):
            with self.assertRaises(NoText) as caught:
                read_machine(thing)
            self.assertEqual(caught.exception.row, 0)
            self.assertIsInstance(caught.exception, Refused)


class HistoryTexts(unittest.TestCase):
    words = ("a", "zz")
    history = (("a", 5, 0), ("join", 3, 5), ("zz", 999999999, 12), ("a", 5, 0))
    text = "a 5.0\njoin 3 5\nzz 999999999.12\na 5.0"

    def told(self, text):
        try:
            return read_history(self.words, text)
        except NoText as error:
            return error.row

    def slow(self, text):
        if text == "":
            return ()
        history = ()
        for at, row in enumerate(text.split("\n")):
            found = re.fullmatch(f"(a|zz) ({NUMBER})\\.({NUMBER})|(join) ({NUMBER}) ({NUMBER})", row)
            if found is None:
                return at
            parts = [part for part in found.groups() if part is not None]
            history += ((parts[0], int(parts[1]), int(parts[2])),)
            if not is_history(self.words, history):
                return at
        return history

    def test_a_text(self):
        self.assertEqual(show_history(self.history), self.text)
        self.assertEqual(show_history(history=()), "")
        self.assertTrue(same(read_history(self.words, self.text), self.history))
        self.assertEqual(read_history(words=self.words, text=""), ())

    def test_every_history_is_read_again(self):
        chance = random.Random(103)
        for _ in range(60):
            history = some_history(chance, chance.randrange(20), words=self.words)
            self.assertTrue(same(read_history(self.words, show_history(history)), history))

    def test_texts_spoilt(self):
        chance = random.Random(104)
        right = 0
        for text in list(texts_spoilt(self.text, chance, 1)) + ["a 5", "a 5.", "a .5", "a 5.0.0", "a 5,0", "a 05.0", "join 3.5"]:
            due = self.slow(text)
            right += type(due) is tuple
            self.assertTrue(same(self.told(text), due), text)
        self.assertGreater(right, 10)

    def test_letters_that_are_none_there(self):
        for text, row in (
            ("join 5 3", 0), ("join 3 3", 0), ("join 3 5\njoin 5 6", 1), ("join 3 5\njoin 3 5", 1), ("b 0.0", 0), ("a 0.0\nk 0.0", 1),
            ("a 1234567890.0", 0), ("a 0.1234567890", 0), ("a 00.0", 0), ("\n", 0), ("a 0.0\n", 1), ("join 0.1", 0), ("a 0 1", 0),
            ("join 0 1 2", 0), ("join 0", 0), ("join", 0), ("a", 0),
        ):
            self.assertEqual(self.told(text), row, text)

    def test_two_hundred_letters_and_one_more(self):
        for many in (200, 201):
            history = tuple(("join", 0, at + 1) if at % 2 else ("a", at, at) for at in range(many))
            self.assertTrue(same(read_history(self.words, show_history(history)), history))
            self.assertEqual(self.told(show_history(history) + "\njoin 0 2"), many)

    def test_what_is_no_text(self):
        for thing in ODD_THINGS + (b"a 0.0", ["a 0.0"], self.history):
            if type(thing) is not str:
                self.assertEqual(self.told(thing), 0)


if __name__ == "__main__":
    unittest.main()
