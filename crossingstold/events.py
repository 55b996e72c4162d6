"""EVENTS: when each of several RULES begins to hold, and when it ends."""
from crossingstold.errors import BadEvent, BadRules
from crossingstold.findings import finding_of, ways_of
from crossingstold.kinds import BEGINS, ENDS, are_rules, is_event
from crossingstold.needs import need_moment, need_things, need_watch
from crossingstold.plain import in_order
from crossingstold.rules import need_known
from crossingstold.steps import Steps
from crossingstold.stretches import has
from crossingstold.surds import moment_order
from crossingstold.texts import moment_in, words_of_moment


def need_all(rules, things, watch):
    """Raises what events raises."""
    if not are_rules(rules):
        raise BadRules(rules)
    need_things(things)
    need_watch(watch)
    for _, rule in rules:
        need_known(rule, things)


def found_for_each(rules, things, watch, steps):
    """(NAME, STRETCHES at which it holds) for each RULE, by these Steps."""
    ways = ways_of(things)
    return [(name, finding_of(rule, ways, watch, steps).stretches) for name, rule in rules]


def events_of(name, stretches):
    """The EVENTS of the RULE of this NAME, which holds in these STRETCHES."""
    told = []
    for low, low_in, high, high_in in stretches:
        told.append((low, name, BEGINS, low_in))
        told.append((high, name, ENDS, high_in))
    return told


def event_order(one, other):
    """-1, 0 or 1: how the MOMENTS of two EVENTS stand to one another."""
    return moment_order(one[0], other[0])


def found_events(rules, things, watch, steps):
    """What events tells, by these Steps; raises what events raises."""
    need_all(rules, things, watch)
    found = found_for_each(rules, things, watch, steps)
    told = [event for name, stretches in found for event in events_of(name, stretches)]
    # At one MOMENT they stay as they stand: by RULES, and of one RULE by its STRETCHES.
    return tuple(in_order(told, event_order))


def events(rules, things, watch):
    """All EVENTS of these RULES, in sequence."""
    return found_events(rules, things, watch, Steps())


def next_event(rules, things, watch, moment):
    """The first EVENT whose MOMENT is greater than moment; None if there is none."""
    told = found_events(rules, things, watch, Steps())
    need_moment(moment)
    for event in told:
        if moment_order(event[0], moment) > 0:
            return event
    return None


def holding(rules, things, watch, moment):
    """The NAMES of the RULES that hold at this MOMENT, in the sequence of RULES."""
    need_all(rules, things, watch)
    need_moment(moment)
    return tuple([name for name, stretches in found_for_each(rules, things, watch, Steps()) if has(stretches, moment)])


def tally(rules, things, watch, low, high):
    """For each RULE (NAME, begins, ends): how many of its EVENTS come behind low, up to high."""
    need_all(rules, things, watch)
    need_moment(low)
    need_moment(high)
    told = []
    for name, stretches in found_for_each(rules, things, watch, Steps()):
        words = [event[2] for event in events_of(name, stretches)
                 if moment_order(low, event[0]) < 0 and moment_order(event[0], high) <= 0]
        told.append((name, words.count(BEGINS), words.count(ENDS)))
    return tuple(told)


def event_text(event):
    """The text of an EVENT."""
    if not is_event(event):
        raise BadEvent(event)
    moment, name, word, counted = event
    return " ".join([name, word, "in" if counted else "out", words_of_moment(moment)])


def event_in(text):
    """What this text is of, if it is of an EVENT; None if it can be of none."""
    words = text.split(" ")
    if len(words) < 4 or words[2] not in ("in", "out"):
        return None
    return (moment_in(" ".join(words[3:])), words[0], words[1], words[2] == "in")


def read_event(text):
    """The EVENT whose text this is."""
    if not isinstance(text, str):
        raise BadEvent(text)
    event = event_in(text)
    if not is_event(event):
        raise BadEvent(text)
    return event
