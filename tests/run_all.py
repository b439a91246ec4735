"""Runs all tests in the folders that are told, and prints how many ran; exits with 1 if one fails or none ran."""

import os
import re
import subprocess
import sys
from pathlib import Path

PROJECT = Path(__file__).resolve().parent.parent


def folders_with_tests(folders):
    """The folders, and all folders below them, that hold a test, each once."""
    found = []
    for folder in folders:
        for path in sorted(Path(folder).resolve().rglob("test_*.py")):
            if path.parent not in found:
                found.append(path.parent)
    return found


def run(folder):
    """Run the tests of one folder by themselves: folders may have files of the same name."""
    modules = sorted(path.stem for path in folder.glob("test_*.py"))
    paths = [str(PROJECT), str(folder)]
    environment = dict(os.environ, PYTHONPATH=os.pathsep.join(paths), PYTHONDONTWRITEBYTECODE="1")
    done = subprocess.run([sys.executable, "-m", "unittest", *modules], cwd=PROJECT, env=environment, stdin=subprocess.DEVNULL,
                          stdout=subprocess.PIPE, stderr=subprocess.STDOUT, text=True)
    print(f"{folder}:\n{done.stdout}", flush=True)
    ran = re.findall(r"^Ran (\d+) tests? in", done.stdout, re.MULTILINE)
    wrong = sum(int(number) for number in re.findall(r"(?:(?<!expected )failures|errors|unexpected successes)=(\d+)", done.stdout))
    if done.returncode != 0 or not ran:
        wrong = max(wrong, 1)
    return int(ran[-1]) if ran else 0, wrong


def main(folders):
    all_ran, all_wrong = 0, 0
    for folder in folders_with_tests(folders):
        ran, wrong = run(folder)
        all_ran += ran
        all_wrong += wrong
    print(f"{max(all_ran - all_wrong, 0)} passed, {all_wrong} failed")
    return 1 if all_wrong or not all_ran else 0


if __name__ == "__main__":
    sys.exit(main(sys.argv[1:]))
