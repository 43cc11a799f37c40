"""Runs each test_*.py below the folders named, and ends with how many tests passed and failed.

Each file has a process of its own, for two folders may have files of the same name.
"""

import os
import pathlib
import re
import subprocess
import sys

ROOT = pathlib.Path(__file__).resolve().parent.parent


def counted(word, text):
    found = re.search(word + r"=(\d+)", text)
    return int(found.group(1)) if found else 0


def run_file(path):
    """How many tests of this file passed, failed and were skipped."""
    paths = [str(ROOT), str(path.parent)]
    done = subprocess.run(
        [sys.executable, "-m", "unittest", path.stem],
        cwd=path.parent,
        env={**os.environ, "PYTHONPATH": os.pathsep.join(paths)},
        stdout=subprocess.PIPE,
        stderr=subprocess.STDOUT,
        text=True,
    )
    ran = re.findall(r"^Ran (\d+) tests?\b", done.stdout, re.MULTILINE)
    many = int(ran[-1]) if ran else 0
    last = done.stdout.strip().splitlines()[-1] if done.stdout.strip() else ""
    skipped = counted("skipped", last)
    failed = counted("failures", last) + counted("errors", last) + counted("unexpected successes", last)
    if failed == 0 and (done.returncode != 0 or many == 0):
        # A file that breaks off, or that has no test, must not pass unseen.
        failed = 1
        many = many + 1
    if failed:
        print(done.stdout)
    passed = max(0, many - failed - skipped)
    print(f"{path}: {passed} of {many} passed", flush=True)
    return passed, failed, skipped


def main(folders):
    files = []
    for folder in folders:
        files.extend(sorted((ROOT / folder).resolve().rglob("test_*.py")))
    results = [run_file(path) for path in files]
    passed, failed, skipped = [sum(row[at] for row in results) for at in range(3)]
    print(f"{passed} passed, {failed} failed" + (f", {skipped} skipped" if skipped else ""))
    return 1 if failed or not passed else 0


if __name__ == "__main__":
    sys.exit(main(sys.argv[1:]))
