"""Tasks: what the line of a deed tells to do with a Post."""
from crossingstold.kinds import is_name, is_report
from crossingstold.rules import rule_in
from crossingstold.texts import integer_in
from crossingstold.ways import report_in


def number_in(word):
    """The integer from 0 on whose text this is; None if there is none."""
    number = integer_in(word)
    return number if number is not None and number >= 0 else None


def values_of(word, rest):
    """What stands behind the word of a deed's line, for the words behind it; None is told in place of what is wrong."""
    name = rest[0] if is_name(rest[0]) else None
    if word == "put" or word == "correct":
        report = report_in(" ".join(rest[1:]))
        first = name if word == "put" else number_in(rest[0])
        return (first, report if is_report(report) else None)
    if word == "add":
        return (name, rule_in(" ".join(rest[1:])))
    # Words too many are wrong, too.
    first = number_in(rest[0]) if word == "take" else name
    return (first if len(rest) == 1 else None,)


def task_in(line):
    """(word, values ..): the deed that a line tells; None if it tells none."""
    if not isinstance(line, str) or "\n" in line:
        return None
    words = line.split(" ")
    if words[0] not in ("put", "take", "correct", "add", "drop") or len(words) == 1:
        return None
    values = values_of(words[0], words[1:])
    return None if None in values else (words[0], *values)


def do_task(kept, task):
    """Does a deed with this Post."""
    word = task[0]
    if word == "put":
        kept.put(task[1], task[2])
    elif word == "take":
        kept.take(task[1])
    elif word == "correct":
        kept.correct(task[1], task[2])
    elif word == "add":
        kept.add(task[1], task[2])
    else:
        kept.drop(task[1])
