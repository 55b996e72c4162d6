"""Journals: the deeds of a Bench as a text, and back."""
from crossingstold.benches import Bench
from crossingstold.errors import BadJournal, WatchError
from crossingstold.kinds import is_watch
from crossingstold.texts import fraction_in, fraction_text

WATCH = "watch"
DEEDS = "deeds"


def journal(bench):
    """The WATCH of a Bench, and the lines of its deeds."""
    low, high = [fraction_text(moment) for moment in bench.watch]
    return "\n".join([WATCH + " " + low + " " + high, DEEDS, *bench.lines()])


def watch_in(line):
    """The WATCH that the first line of a journal tells; None if it tells none."""
    words = line.split(" ")
    watch = tuple([fraction_in(word) for word in words[1:]])
    return watch if words[0] == WATCH and is_watch(watch) else None


def read_journal(text):
    """The Bench on which this was done."""
    if not isinstance(text, str):
        raise BadJournal(0)
    lines = text.split("\n")
    watch = watch_in(lines[0])
    if watch is None:
        raise BadJournal(1)
    if len(lines) == 1 or lines[1] != DEEDS:
        raise BadJournal(2)
    bench = Bench(watch)
    for number, line in enumerate(lines[2:], 3):
        try:
            bench.do(line)
        except WatchError:
            raise BadJournal(number) from None
    return bench
