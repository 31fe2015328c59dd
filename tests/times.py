"""Tells how long the functions of tilings take: python3 -m tests.times"""

import platform
import time

from threerims.inequalities import violated
from threerims.tilings import border_sets, check_tiling, edge_labels, tilings

RUNS = 7


def milliseconds(call):
    """Return the time of the fastest of some runs, as a text."""
    found = []
    for _ in range(RUNS):
        start = time.perf_counter()
        call()
        found.append(time.perf_counter() - start)
    return f"{1000 * min(found):.2f} ms"


def main():
    border, every = (4, 3, 2, 1, 0), tilings(5)
    print(f"Times of tilings (CPython {platform.python_version()}, the fastest of {RUNS} runs):")
    print("  tilings(5):", milliseconds(lambda: tilings(5)))
    print("  violated of size 5:", milliseconds(lambda: violated(border, border, (8, 6, 4, 2, 0))))
    for function in (check_tiling, edge_labels, border_sets):
        taken = milliseconds(lambda: [function(5, tiling) for tiling in every])
        print(f"  {function.__name__} over all {len(every)} tilings of size 5:", taken)


if __name__ == "__main__":
    main()
