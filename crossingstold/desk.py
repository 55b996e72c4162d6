"""A desk: a Bench to which one speaks in lines."""
from crossingstold.errors import BadTask
from crossingstold.events import event_text, holding, next_event
from crossingstold.journals import read_journal
from crossingstold.kinds import is_name
from crossingstold.stretches import stretches_text
from crossingstold.texts import moment_in

DONE = "done"
NONE = "none"


def next_text(kept, moment):
    """The text of the next EVENT of a Post behind this MOMENT."""
    event = next_event(kept.rules, kept.things, kept.watch, moment)
    return NONE if event is None else event_text(event)


def told_then(kept, word, text):
    """The answer to next or holding with the text of a MOMENT; None if it is of none."""
    moment = moment_in(text)
    if moment is None:
        return None
    if word == "next":
        return next_text(kept, moment)
    return " ".join(holding(kept.rules, kept.things, kept.watch, moment)) or NONE


def told_by(kept, line):
    """The answer to a line that asks a Post; None if it asks nothing."""
    word, _, rest = line.partition(" ")
    if line == "events":
        return "; ".join([event_text(event) for event in kept.events()]) or NONE
    if word == "held" and is_name(rest):
        return stretches_text(kept.held(rest)) or NONE
    if word in ("next", "holding"):
        return told_then(kept, word, rest)
    return None


class Desk:
    """A Bench, and what it answers."""

    def __init__(self, text):
        self.bench = read_journal(text)

    def say(self, line):
        """Does what a line tells, or answers what it asks."""
        if not isinstance(line, str):
            raise BadTask(line)
        if line == "undo":
            self.bench.undo()
            return DONE
        if line == "redo":
            self.bench.redo()
            return DONE
        answer = told_by(self.bench.post(), line)
        if answer is None:
            # What asks nothing is a deed, or else no task at all.
            self.bench.do(line)
            answer = DONE
        return answer
