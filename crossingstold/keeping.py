"""Kept up: REPORTS and RULES as they come, late, wrong, put right, taken back, and what they tell."""
from crossingstold.errors import Full, NoReport, NoRule, Taken
from crossingstold.events import found_events
from crossingstold.kinds import FEWEST_REPORTS, MOST_REPORTS, MOST_RULES, MOST_THINGS
from crossingstold.needs import need_name, need_report, need_rule, need_watch
from crossingstold.plain import fraction_order, in_order, is_integer
from crossingstold.rules import found
from crossingstold.steps import Steps


def things_of(reports):
    """The WAYS of all NAMES of which two REPORTS or more stand, ascending by NAMES."""
    told = []
    for name in sorted(set([row[1] for row in reports])):
        own = [row[2] for row in reports if row[1] == name]
        if len(own) >= FEWEST_REPORTS:
            told.append((name, tuple(in_order(own, lambda one, other: fraction_order(one[0], other[0])))))
    return tuple(told)


def need_free(moment, rows):
    """Taken(moment) if one of these REPORTS, in rows as a Post's, has this moment."""
    if moment in [row[2][0] for row in rows]:
        raise Taken(moment)


def need_room(name, reports):
    """Full(name) if there is no room for one more REPORT of this NAME."""
    owners = [row[1] for row in reports]
    if owners.count(name) >= MOST_REPORTS or (name not in owners and len(set(owners)) >= MOST_THINGS):
        raise Full(name)


class Post:
    """REPORTS and RULES of a WATCH, and what they tell, as of now."""

    def __init__(self, watch):
        need_watch(watch)
        self.watch = watch
        self.reports = ()
        self.rules = ()
        self.things = ()
        self.work = 0
        self._following = 0
        self._steps = Steps()

    def __eq__(self, other):
        if not isinstance(other, Post):
            return False
        if self.watch != other.watch or self.reports != other.reports:
            return False
        return self.rules == other.rules and self._following == other._following

    def _stand(self, reports):
        """From now on these REPORTS stand."""
        self.reports = reports
        self.things = things_of(reports)

    def put(self, name, report):
        """One more REPORT stands; its number."""
        need_name(name)
        need_report(report)
        need_free(report[0], [row for row in self.reports if row[1] == name])
        need_room(name, self.reports)
        number = self._following
        self._stand((*self.reports, (number, name, report)))
        self._following = number + 1
        return number

    def _place_of(self, number):
        """Where the REPORT of this number stands; NoReport(number) if none does."""
        numbers = [row[0] for row in self.reports]
        if not is_integer(number) or number not in numbers:
            raise NoReport(number)
        return numbers.index(number)

    def take(self, number):
        """The REPORT of this number stands no more."""
        place = self._place_of(number)
        self._stand((*self.reports[:place], *self.reports[place + 1:]))

    def correct(self, number, report):
        """This REPORT stands in the place of the one that had this number."""
        place = self._place_of(number)
        need_report(report)
        name = self.reports[place][1]
        need_free(report[0], [row for row in self.reports if row[1] == name and row[0] != number])
        self._stand((*self.reports[:place], (number, name, report), *self.reports[place + 1:]))

    def add(self, name, rule):
        """One more RULE stands."""
        need_name(name)
        need_rule(rule)
        if name in [known for known, _ in self.rules]:
            raise Taken(name)
        if len(self.rules) >= MOST_RULES:
            raise Full(name)
        self.rules = (*self.rules, (name, rule))

    def _rule_of(self, name):
        """The RULE of this NAME; NoRule(name) if none stands."""
        for known, rule in self.rules:
            if known == name:
                return rule
        raise NoRule(name)

    def drop(self, name):
        """The RULE of this NAME stands no more."""
        self._rule_of(name)
        self.rules = tuple([pair for pair in self.rules if pair[0] != name])

    def held(self, name):
        """The STRETCHES of all moments of the WATCH at which the RULE of this NAME is so."""
        told = found(self._rule_of(name), self.things, self.watch, self._steps).stretches
        self.work = len(self._steps.known)
        return told

    def events(self):
        """All EVENTS of the RULES, in sequence."""
        told = found_events(self.rules, self.things, self.watch, self._steps)
        self.work = len(self._steps.known)
        return told

    def copy(self):
        """A Post by itself, alike in all things."""
        twin = Post(self.watch)
        twin.reports = self.reports
        twin.rules = self.rules
        twin.things = self.things
        twin.work = self.work
        twin._following = self._following
        twin._steps = self._steps.copied()
        return twin
