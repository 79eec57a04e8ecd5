"""Runs each test file in a process of its own, and ends with a line that counts the tests."""

import os
import re
import subprocess
import sys
from concurrent.futures import ThreadPoolExecutor
from pathlib import Path

ROOT = Path(__file__).resolve().parent.parent
SHARED = ROOT.parent / "shared" / "tests"


def commands():
    """The list of (label, command) of all test files, those of the project first."""
    found = []
    for path in sorted((ROOT / "tests").glob("test_*.py")):
        found.append((f"tests/{path.name}", [sys.executable, "-m", "unittest", f"tests.{path.stem}"]))
    for path in sorted(SHARED.rglob("test_*.py")) if SHARED.is_dir() else []:
        command = [sys.executable, "-m", "unittest", "discover", "-s", str(path.parent), "-p", path.name]
        found.append((f"shared/tests/{path.relative_to(SHARED)}", command))
    return found


def run_one(command):
    """The exit code and the output of a test file."""
    env = dict(os.environ, PYTHONPATH=str(ROOT), PYTHONDONTWRITEBYTECODE="1")
    done = subprocess.run(command, cwd=ROOT, env=env, capture_output=True, text=True, stdin=subprocess.DEVNULL)
    return done.returncode, done.stdout + done.stderr


def counts(code, output):
    """How many tests passed, and how many failed: one at least if the file as a whole did."""
    ran = re.search(r"^Ran (\d+) tests?", output, re.MULTILINE)
    many = int(ran.group(1)) if ran else 0
    failed = sum(int(n) for n in re.findall(r"(?:failures|errors|unexpected successes)=(\d+)", output))
    if code != 0 or many == 0:
        failed = max(failed, 1)
    return max(many - failed, 0), failed


def main():
    passed = failed = 0
    todo = commands()
    with ThreadPoolExecutor(max_workers=os.cpu_count() or 2) as pool:
        results = list(pool.map(run_one, [command for _, command in todo]))
    for (label, _), (code, output) in zip(todo, results):
        good, bad = counts(code, output)
        passed, failed = passed + good, failed + bad
        print(f"{label}: {good} passed, {bad} failed", flush=True)
        if bad:
            print(output, flush=True)
    print(f"{passed} passed, {failed} failed", flush=True)
    return 1 if failed or passed == 0 else 0


if __name__ == "__main__":
    sys.exit(main())
