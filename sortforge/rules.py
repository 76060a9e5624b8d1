"""Rules that make programs, and how many compares these have."""

from sortforge.errors import NoRule

RULES = ("step", "rounds", "quick")


def made(rule, places):
    """The program that the rule makes for so many places."""
    _check_rule(rule)
    if rule == "step":
        return _step(places)
    if rule == "rounds":
        return _rounds(places)
    return _quick(places)


def count_of(rule, places):
    """How many compares the rule's program has, without making it."""
    _check_rule(rule)
    if rule == "quick":
        return _count_of_quick(places)
    return places * (places - 1) // 2


def keeps_by(rule):
    """Whether the rule's programs are promised to keep equal ones in order."""
    _check_rule(rule)
    return rule != "quick"


def _check_rule(rule):
    if rule not in RULES:
        raise NoRule(f"there is no rule of the name {rule!r}")


def _step(places):
    return tuple([(i, i + 1) for last in range(1, places) for i in range(last - 1, -1, -1)])


def _rounds(places):
    return tuple([(i, i + 1) for number in range(places) for i in range(number % 2, places - 1, 2)])


def _quick(places):
    program = []
    powers = _powers_below(places)
    for part in powers:
        program.extend(_compares_apart(part, places, part, 0))
        for power in powers:
            if power > part:
                program.extend(_compares_apart(power - part, places, part, 1))
    return tuple(program)


def _powers_below(places):
    """The powers of two below the number of places, the greatest first."""
    powers = []
    power = 1
    while power < places:
        powers = [power] + powers
        power = power * 2
    return powers


def _compares_apart(apart, places, part, odd):
    """The compares of places so far apart, the first of which stands in an odd (or even) part."""
    return [(i, i + apart) for i in range(places - apart) if i // part % 2 == odd]


def _count_of_quick(places):
    if places < 2:
        return 0
    more = (places + 1) // 2
    less = places // 2
    return _count_of_quick(more) + _count_of_quick(less) + _count_of_merging(more, less)


def _count_of_merging(a, b):
    """How many compares put two ordered rows of so many things into one."""
    if a == 0 or b == 0:
        return 0
    if a == 1 and b == 1:
        return 1
    odd = _count_of_merging((a + 1) // 2, (b + 1) // 2)
    even = _count_of_merging(a // 2, b // 2)
    return odd + even + (a + b - 1) // 2
