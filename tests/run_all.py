"""Runs all test files, each in a process of its own, and counts what passed and failed."""

import os
import re
import subprocess
import sys
from concurrent.futures import ThreadPoolExecutor

HERE = os.path.dirname(os.path.abspath(__file__))
ROOT = os.path.dirname(HERE)
SHARED = os.path.join(os.path.dirname(ROOT), "shared", "tests")


def test_files(folder):
    if not os.path.isdir(folder):
        return []
    return sorted(name for name in os.listdir(folder) if re.fullmatch(r"test_\w*\.py", name))


def commands():
    own = [("tests." + name[:-3], []) for name in test_files(HERE)]
    shared = [(name[:-3], [SHARED]) for name in test_files(SHARED)]
    return own + shared


def run(command):
    module, folders = command
    environment = dict(os.environ, PYTHONPATH=os.pathsep.join([ROOT] + folders))
    done = subprocess.run(
        [sys.executable, "-m", "unittest", module], cwd=ROOT, env=environment,
        stdin=subprocess.DEVNULL, stdout=subprocess.PIPE, stderr=subprocess.STDOUT, text=True,
    )
    ran = sum(int(count) for count in re.findall(r"^Ran (\d+) tests? in", done.stdout, re.M))
    last = done.stdout.strip().splitlines()[-1] if done.stdout.strip() else ""
    failed = sum(int(count) for count in re.findall(r"(?:failures|errors)=(\d+)", last))
    if done.returncode != 0 and failed == 0:
        failed = 1
    if ran == 0 and not folders:
        failed = max(failed, 1)
    # Failures of subtests are more than the tests that ran.
    return module, done.stdout, max(ran - failed, 0), failed


def main():
    print("Python " + sys.version.split()[0])
    passed = failed = 0
    with ThreadPoolExecutor(max_workers=os.cpu_count() or 1) as pool:
        for module, output, good, bad in pool.map(run, commands()):
            passed += good
            failed += bad
            print(f"{module}: {good} passed, {bad} failed")
            if bad:
                print(output)
    print(f"{passed} passed, {failed} failed")
    return 1 if failed or not passed else 0


if __name__ == "__main__":
    sys.exit(main())
