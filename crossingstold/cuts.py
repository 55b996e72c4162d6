"""STRETCHES as they are reckoned with, by functions that check nothing but what is asked of them.

A *cut* is a pair (MOMENT, behind): just ahead of the MOMENT, where behind is 0, or just behind it,
where behind is 1. A STRETCH goes from one cut to a later one; so ends that are counted in and ends
that are not need no rules of their own. A *run* is a pair of cuts, the first one ahead of the second one.
"""
from crossingstold.plain import in_order
from crossingstold.surds import is_moment, moment_order


def cut_order(one, other):
    """-1, 0 or 1: whether the one cut is ahead of the other one, the same, behind it."""
    order = moment_order(one[0], other[0])
    if order == 0:
        return one[1] - other[1]
    return order


def run_order(one, other):
    """-1, 0 or 1: how two runs begin, as cut_order tells it."""
    return cut_order(one[0], other[0])


def run_of(stretch):
    """The run that a STRETCH is."""
    low, low_in, high, high_in = stretch
    return ((low, 0 if low_in else 1), (high, 1 if high_in else 0))


def runs_of(stretches):
    """The runs that STRETCHES are."""
    return [run_of(stretch) for stretch in stretches]


def is_run(low, high):
    """Whether the first cut is ahead of the second one, so that some moment lies between them."""
    return cut_order(low, high) < 0


def stretches_from(runs):
    """The STRETCHES that these runs are, which ascend and do not touch."""
    return tuple([(low[0], low[1] == 0, high[0], high[1] == 1) for low, high in runs])


def is_stretch(value):
    """Whether value is a STRETCH."""
    if not isinstance(value, tuple) or len(value) != 4:
        return False
    low, low_in, high, high_in = value
    if not isinstance(low_in, bool) or not isinstance(high_in, bool):
        return False
    if not is_moment(low) or not is_moment(high):
        return False
    first, last = run_of(value)
    return is_run(first, last)


def are_stretches(value):
    """Whether value is STRETCHES."""
    if not isinstance(value, tuple) or not all([is_stretch(stretch) for stretch in value]):
        return False
    runs = runs_of(value)
    return all([is_run(runs[at - 1][1], runs[at][0]) for at in range(1, len(runs))])


def united(runs):
    """The STRETCHES of all moments of these runs, which may stand in any sequence and overlap."""
    merged = []
    for low, high in in_order(runs, run_order):
        if not merged or is_run(merged[-1][1], low):
            merged.append((low, high))
        elif is_run(merged[-1][1], high):
            merged[-1] = (merged[-1][0], high)
    return stretches_from(merged)


def cuts_of(stretches):
    """The cuts of STRETCHES, ascending: those at even places open a run, the others close it."""
    return [cut for run in runs_of(stretches) for cut in run]


def next_order(left, at, right, to):
    """-1, 0 or 1: whether left[at] comes ahead of right[to], at the same cut, behind it; one at least is there."""
    if at == len(left):
        return 1
    if to == len(right):
        return -1
    return cut_order(left[at], right[to])


def combined(one, other, wanted):
    """The STRETCHES of all moments for which wanted(whether they are in one, whether in other) holds.

    wanted does not hold of what is in neither.
    """
    left, right = cuts_of(one), cuts_of(other)
    at, to, told = 0, 0, []
    while at < len(left) or to < len(right):
        order = next_order(left, at, right, to)
        cut = left[at] if order <= 0 else right[to]
        if order <= 0:
            at += 1
        if order >= 0:
            to += 1
        # Behind an odd number of cuts one is within a run.
        if wanted(at % 2 == 1, to % 2 == 1) != (len(told) % 2 == 1):
            told.append(cut)
    return stretches_from([(told[first], told[first + 1]) for first in range(0, len(told), 2)])


def in_both(one, other):
    """The STRETCHES of all moments in both."""
    return combined(one, other, lambda in_one, in_other: in_one and in_other)


def in_one_alone(one, other):
    """The STRETCHES of all moments in the first and not in the other one."""
    return combined(one, other, lambda in_one, in_other: in_one and not in_other)


def in_all(lots):
    """The STRETCHES of all moments in each of these STRETCHES, one at least."""
    told = lots[0]
    for stretches in lots[1:]:
        told = in_both(told, stretches)
    return told


def in_any(lots):
    """The STRETCHES of all moments in one of these STRETCHES at least."""
    return united([run for stretches in lots for run in runs_of(stretches)])
