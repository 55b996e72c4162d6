"""REPORTS, WAYS, NAMES, THINGS, WATCHES, RULES, EVENTS and several PATCHES: what is one; nothing is raised here."""
from crossingstold.plain import fraction_order, is_fraction, is_from_zero, is_point
from crossingstold.shapes import is_patch, is_region
from crossingstold.surds import is_moment

LETTERS = "abcdefghijklmnopqrstuvwxyz"
LETTERS_AND_FIGURES = "abcdefghijklmnopqrstuvwxyz0123456789"
LONGEST_NAME = 8

FEWEST_REPORTS = 2
MOST_REPORTS = 12
MOST_THINGS = 6
MOST_PATCHES = 6
DEEPEST_RULE = 8
MOST_RULES_IN_ONE = 20
MOST_RULES_BEHIND_A_WORD = 8
MOST_RULES = 12

BEGINS = "begins"
ENDS = "ends"


def is_name(value):
    """Whether value is a NAME."""
    if not isinstance(value, str) or not 1 <= len(value) <= LONGEST_NAME:
        return False
    return value[0] in LETTERS and all([letter in LETTERS_AND_FIGURES for letter in value])


def is_report(value):
    """Whether value is a REPORT."""
    return isinstance(value, tuple) and len(value) == 2 and is_fraction(value[0]) and is_point(value[1])


def is_way(value):
    """Whether value is a WAY."""
    if not isinstance(value, tuple) or not FEWEST_REPORTS <= len(value) <= MOST_REPORTS:
        return False
    if not all([is_report(report) for report in value]):
        return False
    return all([fraction_order(value[n - 1][0], value[n][0]) < 0 for n in range(1, len(value))])


def are_patches(value):
    """Whether value is a tuple of 1 to 6 PATCHES."""
    if not isinstance(value, tuple) or not 1 <= len(value) <= MOST_PATCHES:
        return False
    return all([is_patch(patch) for patch in value])


def is_named(value):
    """Whether value is a pair whose first item is a NAME."""
    return isinstance(value, tuple) and len(value) == 2 and is_name(value[0])


def are_things(value):
    """Whether value is THINGS."""
    if not isinstance(value, tuple) or not 1 <= len(value) <= MOST_THINGS:
        return False
    if not all([is_named(pair) and is_way(pair[1]) for pair in value]):
        return False
    return all([value[n - 1][0] < value[n][0] for n in range(1, len(value))])


def is_watch(value):
    """Whether value is a WATCH."""
    if not isinstance(value, tuple) or len(value) != 2:
        return False
    return is_fraction(value[0]) and is_fraction(value[1]) and fraction_order(value[0], value[1]) < 0


def inner_rules(rule):
    """What stands for RULES in this tuple with a RULE's word."""
    if rule[0] in ("and", "or", "not", "since"):
        return rule[1:]
    if rule[0] in ("long", "lately"):
        return rule[2:]
    return ()


def is_formed(value):
    """Whether this tuple has a RULE's word, as many items as are due, and all right but for the RULES in it."""
    word, many = value[0], len(value)
    if word == "in":
        return many == 3 and is_name(value[1]) and is_region(value[2])
    if word == "near":
        return many == 4 and is_name(value[1]) and is_name(value[2]) and is_from_zero(value[3])
    if word in ("and", "or"):
        return 1 <= many - 1 <= MOST_RULES_BEHIND_A_WORD
    if word in ("long", "lately"):
        return many == 3 and is_from_zero(value[1])
    return (word == "not" and many == 2) or (word == "since" and many == 3)


def count_rules(value, deep):
    """How many RULES there are in value, which lies deep in a RULE, itself counted; 0 where it can't lie there."""
    if deep > DEEPEST_RULE or not isinstance(value, tuple) or not value or not isinstance(value[0], str):
        return 0
    if not is_formed(value):
        return 0
    many = 1
    for inner in inner_rules(value):
        inner_many = count_rules(inner, deep + 1)
        many += inner_many
        # To go on only where it still may be a RULE keeps this short, however much is told twice in value.
        if inner_many == 0 or many > MOST_RULES_IN_ONE:
            return 0
    return many


def is_rule(value):
    """Whether value is a RULE."""
    return count_rules(value, 1) > 0


def are_rules(value):
    """Whether value is RULES."""
    if not isinstance(value, tuple) or len(value) > MOST_RULES:
        return False
    if not all([is_named(pair) and is_rule(pair[1]) for pair in value]):
        return False
    names = [pair[0] for pair in value]
    return len(set(names)) == len(names)


def is_event(value):
    """Whether value is an EVENT."""
    if not isinstance(value, tuple) or len(value) != 4:
        return False
    moment, name, word, counted = value
    return is_moment(moment) and is_name(name) and word in (BEGINS, ENDS) and isinstance(counted, bool)
