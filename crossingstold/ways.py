"""WAYS: how things go, by their REPORTS, straight and evenly from each one to the next one."""
from crossingstold.errors import Apart, BadSpan, BadWay, NotThen, TooMany
from crossingstold.kinds import MOST_REPORTS, is_way
from crossingstold.legs import (
    least_distance, leg_in, legs_of, legs_together, place_at, square_speed, way_in, ways_near)
from crossingstold.needs import need_fraction, need_moment, need_region, need_square, need_way
from crossingstold.plain import fraction_order, is_fraction
from crossingstold.stretches import has
from crossingstold.surds import moment_order
from crossingstold.texts import fraction_in, fraction_text


def is_in_span(way, moment):
    """Whether a MOMENT lies in the span of a WAY."""
    return moment_order(way[0][0], moment) <= 0 and moment_order(moment, way[-1][0]) <= 0


def leg_at(way, moment):
    """The first leg of a WAY that has this MOMENT; NotThen(moment) if none has it."""
    if not is_in_span(way, moment):
        raise NotThen(moment)
    return [leg for leg in legs_of(way) if moment_order(moment, leg[1][0]) <= 0][0]


def at(way, moment):
    """The POINT at which it is at this moment, a FRACTION."""
    need_way(way)
    need_fraction(moment)
    return place_at(leg_at(way, moment), moment)


def is_in_at(region, way, moment):
    """Whether its place at this MOMENT lies in the REGION."""
    need_region(region)
    need_way(way)
    need_moment(moment)
    return has(leg_in(region, leg_at(way, moment)), moment)


def during(region, way):
    """The STRETCHES of all moments of the span at which its place lies in the REGION."""
    need_region(region)
    need_way(way)
    return way_in(region, way)


def near(one, other, square):
    """The STRETCHES of all moments of both spans at which the square of the distance is at most this."""
    need_way(one)
    need_way(other)
    need_square(square)
    return ways_near(square, one, other)


def closest(one, other):
    """(least square of the distance, the first moment at which it comes about); None if no moment is in both spans."""
    need_way(one)
    need_way(other)
    told = None
    for leg, beside in legs_together(one, other):
        found = least_distance(leg, beside)
        if told is None or fraction_order(found[0], told[0]) < 0:
            told = found
    return told


def speeds(way):
    """The squares of the speeds, leg by leg."""
    need_way(way)
    return tuple([square_speed(leg) for leg in legs_of(way)])


def part(way, low, high):
    """The WAY from low to high, two FRACTIONS in the span."""
    need_way(way)
    if not is_fraction(low) or not is_fraction(high):
        raise BadSpan((low, high))
    if not is_in_span(way, low) or not is_in_span(way, high) or fraction_order(low, high) >= 0:
        raise BadSpan((low, high))
    begin, end = [(moment, place_at(leg_at(way, moment), moment)) for moment in (low, high)]
    between = [report for report in way if fraction_order(low, report[0]) < 0 and fraction_order(report[0], high) < 0]
    return (begin, *between, end)


def led_on(one, other):
    """The WAY along both; the last REPORT of the one is the first one of the other one."""
    need_way(one)
    need_way(other)
    if one[-1] != other[0]:
        raise Apart(None)
    together = (*one, *other[1:])
    if len(together) > MOST_REPORTS:
        raise TooMany(len(together))
    return together


def report_text(report):
    """The words of a REPORT: its moment, x and y."""
    moment, (x, y) = report
    return " ".join([fraction_text(number) for number in (moment, x, y)])


def way_text(way):
    """The text of a WAY."""
    need_way(way)
    return " ; ".join([report_text(report) for report in way])


def report_in(text):
    """What this text is of, if it is of a REPORT."""
    numbers = [fraction_in(word) for word in text.split(" ")]
    return (numbers[0], tuple(numbers[1:]))


def read_way(text):
    """The WAY whose text this is."""
    if not isinstance(text, str):
        raise BadWay(text)
    way = tuple([report_in(part_text) for part_text in text.split(" ; ")])
    if not is_way(way):
        raise BadWay(text)
    return way
