"""Bounds of what letters may suffer, and rules by which hands claim and ask."""

from wirenames.checks import is_gap, is_within
from wirenames.errors import NoBounds, NoRule


def claiming_ticks(probes, gap, wait):
    """The ticks from a claim's first probe to its holding."""
    return max(probes - 1, 0) * gap + wait


def least_period(probes, gap, wait):
    return claiming_ticks(probes, gap, wait) + 2


def asking_ticks(late, repeats, gap):
    """The ticks in which an asking and its answer, each repeated, must have come."""
    return 2 * late + 2 * repeats * gap


class Bounds:
    """How many copies in a row may be lost, and how many ticks one may be late."""

    def __init__(self, *, lost=1, late=2):
        if not (is_within(lost, 0, 3) and is_within(late, 1, 5)):
            raise NoBounds("lost is from 0 to 3, late from 1 to 5")
        self.lost = lost
        self.late = late

    def __eq__(self, other):
        return isinstance(other, Bounds) and self.lost == other.lost and self.late == other.late

    def __repr__(self):
        return f"Bounds({self.lost} {self.late})"


class Rule:
    """How often and for how long hands send letters, wait and remember."""

    def __init__(self, *, probes, gap=1, wait, repeats, period, life):
        if not (is_within(probes, 0, 9) and is_gap(gap) and is_within(wait, 0, 99)):
            raise NoRule("probes are from 0 to 9, gap from 1 to 5, wait from 0 to 99")
        if not (is_within(repeats, 0, 9) and is_within(period, 1, 400) and is_within(life, 1, 400)):
            raise NoRule("repeats are from 0 to 9, period and life from 1 to 400")
        if period < least_period(probes, gap, wait):
            raise NoRule("the period is at least 2 more than the claiming time")
        self.probes = probes
        self.gap = gap
        self.wait = wait
        self.repeats = repeats
        self.period = period
        self.life = life

    def __eq__(self, other):
        return (
            isinstance(other, Rule)
            and self.probes == other.probes
            and self.gap == other.gap
            and self.wait == other.wait
            and self.repeats == other.repeats
            and self.period == other.period
            and self.life == other.life
        )

    def __repr__(self):
        return f"Rule({self.probes} {self.gap} {self.wait} {self.repeats} {self.period} {self.life})"


def check_bounds(bounds):
    if not isinstance(bounds, Bounds):
        raise NoBounds("these are no bounds")


def check_rule(rule):
    if not isinstance(rule, Rule):
        raise NoRule("this is no rule")


def check_both(bounds, rule):
    check_bounds(bounds)
    check_rule(rule)


def check_fit(bounds, rule):
    if not fits(bounds, rule):
        raise NoRule("the rule's life is too short for the bounds")


def claiming_time(rule):
    check_rule(rule)
    return claiming_ticks(rule.probes, rule.gap, rule.wait)


def asking_time(bounds, rule):
    check_both(bounds, rule)
    return asking_ticks(bounds.late, rule.repeats, rule.gap)


def mending_time(bounds, rule):
    """The ticks behind a joining after which no two on one wire hold one name."""
    check_both(bounds, rule)
    return claiming_time(rule) + (bounds.lost + 1) * rule.period + bounds.late


def fits(bounds, rule):
    """Whether what is heard is remembered long enough for asking."""
    check_both(bounds, rule)
    return rule.life >= 2 * asking_time(bounds, rule)


def least_wait(bounds, gap):
    return 2 * bounds.late + bounds.lost * gap


def is_enough(bounds, rule):
    """Whether no two can come to hold one name by this rule within these bounds."""
    return (
        fits(bounds, rule)
        and rule.probes >= bounds.lost + 1
        and rule.repeats >= bounds.lost
        and rule.wait >= least_wait(bounds, rule.gap)
    )


def least_rule(bounds, *, gap=1):
    """The rule with the fewest letters and the shortest wait that is enough."""
    check_bounds(bounds)
    if not is_gap(gap):
        raise NoRule("a gap is from 1 to 5")
    probes = bounds.lost + 1
    wait = least_wait(bounds, gap)
    return Rule(
        probes=probes,
        gap=gap,
        wait=wait,
        repeats=bounds.lost,
        period=least_period(probes, gap, wait),
        life=2 * asking_ticks(bounds.late, bounds.lost, gap),
    )
