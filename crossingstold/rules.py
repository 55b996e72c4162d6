"""RULES: what one wants to be told of, put together of plain things, and when it is so."""
from crossingstold.errors import BadRule, NoThing, NotThen
from crossingstold.findings import finding_of, ways_of, whole_of
from crossingstold.kinds import DEEPEST_RULE, inner_rules, is_rule
from crossingstold.needs import need_moment, need_rule, need_things, need_watch
from crossingstold.plain import plus
from crossingstold.shapes import region_from, words_of_region
from crossingstold.steps import Steps
from crossingstold.stretches import has
from crossingstold.surds import later
from crossingstold.texts import fraction_in, fraction_text, tree_in


def words_of_rule(rule):
    """The text of a RULE that is checked."""
    word = rule[0]
    told = [words_of_rule(inner) for inner in inner_rules(rule)]
    if word == "in":
        told = [rule[1], words_of_region(rule[2])]
    elif word == "near":
        told = [rule[1], rule[2], fraction_text(rule[3])]
    elif word in ("long", "lately"):
        told = [fraction_text(rule[1]), *told]
    return "(" + " ".join([word, *told]) + ")"


def rule_text(rule):
    """The text of a RULE."""
    need_rule(rule)
    return words_of_rule(rule)


def rule_from(tree, deep):
    """What a tree (see tree_in), which lies deep in a RULE, would be as a part of it; None if it can be none."""
    if deep > DEEPEST_RULE or not isinstance(tree, tuple):
        return None
    word, told = tree[0], tree[1:]
    if word == "in":
        return (word, *told[:1], *[region_from(one, 1) for one in told[1:]])
    if word == "near":
        return (word, *told[:2], *[fraction_in(one) for one in told[2:]])
    if word in ("long", "lately"):
        return (word, fraction_in(told[0]), *[rule_from(one, deep + 1) for one in told[1:]]) if told else None
    return (word, *[rule_from(one, deep + 1) for one in told])


def rule_in(text):
    """The RULE whose text this is; None if there is none."""
    rule = rule_from(tree_in(text), 1)
    return rule if is_rule(rule) else None


def read_rule(text):
    """The RULE whose text this is."""
    rule = rule_in(text)
    if rule is None:
        raise BadRule(text)
    return rule


def names_of(rule):
    """All NAMES in a RULE, in the sequence in which they stand in its text."""
    if rule[0] == "in":
        return [rule[1]]
    if rule[0] == "near":
        return [rule[1], rule[2]]
    return [name for inner in inner_rules(rule) for name in names_of(inner)]


def names_in(rule):
    """All NAMES in the RULE, each once, ascending."""
    need_rule(rule)
    return tuple(sorted(set(names_of(rule))))


def farthest_back(rule):
    """What far_back tells, of a RULE that is checked."""
    if rule[0] == "since":
        return None
    back = (0, 1)
    for inner in inner_rules(rule):
        inner_back = farthest_back(inner)
        if inner_back is None:
            return None
        back = later(back, inner_back)
    if rule[0] in ("long", "lately"):
        return plus(back, rule[1])
    return back


def far_back(rule):
    """How long ago that can be which matters to the RULE; None if there is no limit."""
    need_rule(rule)
    return farthest_back(rule)


def need_known(rule, things):
    """NoThing(name) for the least NAME in the RULE that none of the THINGS has."""
    known = [name for name, _ in things]
    missing = [name for name in names_of(rule) if name not in known]
    if missing:
        raise NoThing(min(missing))


def found(rule, things, watch, steps):
    """The Finding of a RULE by these Steps; raises what held raises."""
    need_rule(rule)
    need_things(things)
    need_watch(watch)
    need_known(rule, things)
    return finding_of(rule, ways_of(things), watch, steps)


def held(rule, things, watch):
    """The STRETCHES of all moments of the WATCH at which the RULE is so."""
    return found(rule, things, watch, Steps()).stretches


def found_at(rule, things, watch, moment):
    """The Finding of a RULE; raises what held_at raises."""
    finding = found(rule, things, watch, Steps())
    need_moment(moment)
    if not has(whole_of(watch), moment):
        raise NotThen(moment)
    return finding


def held_at(rule, things, watch, moment):
    """Whether the RULE is so at this MOMENT of the WATCH."""
    return has(found_at(rule, things, watch, moment).stretches, moment)
