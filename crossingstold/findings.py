"""When RULES hold, and those within them: reckoned from values that are checked."""
from crossingstold.cuts import in_all, in_any, in_both, in_one_alone
from crossingstold.kinds import inner_rules
from crossingstold.steps import near_steps, way_steps
from crossingstold.stretches import narrowed, since, widened


class Finding:
    """A RULE, the STRETCHES of all moments of the WATCH at which it holds, and a Finding for each RULE right in it."""

    def __init__(self, rule, stretches, inner):
        self.rule = rule
        self.stretches = stretches
        self.inner = inner


def whole_of(watch):
    """The STRETCHES of all moments of a WATCH."""
    return ((watch[0], True, watch[1], True),)


def put_together(rule, lots, watch):
    """When a RULE with others in it holds, these being the STRETCHES of all moments at which they hold."""
    word = rule[0]
    if word == "and":
        return in_all(lots)
    if word == "or":
        return in_any(lots)
    if word == "not":
        return in_one_alone(whole_of(watch), lots[0])
    if word == "long":
        # What holds lies within the WATCH: so whoever has a whole length of it has it all behind its beginning.
        return narrowed(lots[0], rule[1])
    if word == "lately":
        return in_both(whole_of(watch), widened(lots[0], rule[1]))
    return since(lots[0], lots[1])


def finding_of(rule, ways, watch, steps):
    """The Finding of a RULE by these Steps; ways is a dict that has the WAY of each NAME in it."""
    word = rule[0]
    if word == "in":
        return Finding(rule, in_both(whole_of(watch), way_steps(steps, rule[2], ways[rule[1]])), [])
    if word == "near":
        found = near_steps(steps, rule[3], ways[rule[1]], ways[rule[2]])
        return Finding(rule, in_both(whole_of(watch), found), [])
    inner = [finding_of(one, ways, watch, steps) for one in inner_rules(rule)]
    return Finding(rule, put_together(rule, [one.stretches for one in inner], watch), inner)


def ways_of(things):
    """A dict of the WAYS of THINGS, by their NAMES."""
    return {name: way for name, way in things}
