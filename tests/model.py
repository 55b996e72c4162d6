"""What REGIONS and RULES tell along WAYS, reckoned another way: moment by moment, over a grid.

A grid is an ascending row of MOMENTS; cell 2 n is its MOMENT number n, cell 2 n + 1 all that lies between this one and
the next one. The MOMENTS of one unit of time stand in each unit again: so a length of whole units takes cells to cells.
Places at ROOTS are told by *surds*, (p, q, d) for p + q times the root of d, p and q being Python's own fractions.
"""
from fractions import Fraction
from math import lcm

from crossingstold.moments import moment_of, rounded_down, scaled, shifted
from tests.helpers import decimal_of, number, order_of, worth


def surd_of(moment):
    """A MOMENT as a surd."""
    if len(moment) == 2:
        return (worth(moment), Fraction(0), 1)
    a, b, c, side = moment
    return (Fraction(-b, 2 * a), Fraction(side, 2 * a), b * b - 4 * a * c)


def added(one, other):
    """The sum of two surds with the same root."""
    return (one[0] + other[0], one[1] + other[1], one[2])


def product(one, other):
    """The product of two surds with the same root."""
    (p, q, d), (r, s, _) = one, other
    return (p * r + q * s * d, p * s + q * r, d)


def times(surd, fraction):
    """A surd times one of Python's own fractions."""
    return (surd[0] * fraction, surd[1] * fraction, surd[2])


def plain(fraction, surd):
    """One of Python's own fractions as a surd with this one's root."""
    return (Fraction(fraction), Fraction(0), surd[2])


def is_not_above_zero(surd):
    """Whether p + q times the root of d is at most 0."""
    p, q, d = surd
    if q <= 0:
        return p <= 0 or p * p <= q * q * d
    return p <= 0 and p * p >= q * q * d


def place_at(way, moment):
    """(x, y), two surds: where a thing is at this MOMENT; None where it is nowhere."""
    if order_of(moment, way[0][0]) < 0 or order_of(way[-1][0], moment) < 0:
        return None
    t = surd_of(moment)
    for (low, one), (high, other) in zip(way, way[1:]):
        if order_of(moment, high) <= 0:
            gone = times(added(t, plain(-worth(low), t)), 1 / (worth(high) - worth(low)))
            return tuple([added(plain(worth(p), t), times(gone, worth(q) - worth(p))) for p, q in zip(one, other)])


def leaf_worth(leaf, place):
    """What is not above 0 just if the place is in this half or disc: a surd."""
    x, y = place
    if leaf[0] == "half":
        return added(added(times(x, leaf[1]), times(y, leaf[2])), plain(-leaf[3], x))
    x, y = [added(p, plain(-worth(q), p)) for p, q in zip(place, leaf[1])]
    return added(added(product(x, x), product(y, y)), plain(-worth(leaf[2]), x))


def lies_in(region, place):
    """Whether a place of surds lies in a REGION."""
    if region[0] in ("half", "disc"):
        return is_not_above_zero(leaf_worth(region, place))
    found = [lies_in(inner, place) for inner in region[1:]]
    return {"and": all(found), "or": any(found), "not": not found[0]}[region[0]]


def gap_worth(one, other, square):
    """What is not above 0 just if two places are so near: a surd."""
    x, y = [added(p, times(q, -1)) for p, q in zip(one, other)]
    return added(added(product(x, x), product(y, y)), plain(-worth(square), x))


def leaves_of(region):
    """All halves and discs in a REGION."""
    return [region] if region[0] in ("half", "disc") else [leaf for inner in region[1:] for leaf in leaves_of(inner)]


def crossings(low, high, worth_at):
    """Low and high, and the MOMENTS at which worth_at, of the second degree from low to high, is 0."""
    step = (worth(high) - worth(low)) / 2
    begin = worth(low)
    zero, one, two = [worth_at(number(begin + n * step))[0] for n in range(3)]
    a = (two - 2 * one + zero) / (2 * step * step)
    b = (one - zero) / step - a * (2 * begin + step)
    c = zero - b * begin - a * begin * begin
    bottom = lcm(a.denominator, b.denominator, c.denominator)
    whole = [int(n * bottom) for n in (a, b, c)]
    told = [low, high]
    if whole[:2] != [0, 0]:
        told += [moment for moment in (moment_of(*whole, -1), moment_of(*whole, 1)) if moment is not None]
    return [moment for moment in told if order_of(low, moment) <= 0 <= order_of(high, moment)]


def region_moments(region, way):
    """All moments at which something changes for a thing on its WAY in a REGION, and others."""
    told = []
    for (low, _), (high, _) in zip(way, way[1:]):
        for leaf in leaves_of(region):
            told += crossings(low, high, lambda moment, leaf=leaf: leaf_worth(leaf, place_at(way, moment)))
    return told


def near_moments(one, other, square):
    """All moments at which something changes for two things so near to one another, and others."""
    rows = sorted({worth(report[0]) for report in (*one, *other)})
    told = [number(row) for row in rows]
    for low, high in zip(rows, rows[1:]):
        low, high = number(low), number(high)
        if None not in (place_at(one, low), place_at(one, high), place_at(other, low), place_at(other, high)):
            told += crossings(low, high, lambda moment: gap_worth(
                place_at(one, moment), place_at(other, moment), square))
    return told


def rule_moments(rule, ways):
    """All moments at which something changes for the plain things in a RULE, and others."""
    if rule[0] == "in":
        return region_moments(rule[2], ways[rule[1]])
    if rule[0] == "near":
        return near_moments(ways[rule[1]], ways[rule[2]], rule[3])
    return [moment for inner in rule[1:] if isinstance(inner[0], str) for moment in rule_moments(inner, ways)]


def behind_unit(moment, begin, unit):
    """By how much a MOMENT lies behind the begin of its unit, units being counted from begin on."""
    moment = shifted(moment, number(-worth(begin)))
    units = rounded_down(scaled(moment, number(1 / unit)), 0)
    return shifted(moment, number(-worth(units) * unit))


def between_of(one, other):
    """A FRACTION between two MOMENTS, by decimals."""
    return number(Fraction((decimal_of(one) + decimal_of(other)) / 2).limit_denominator(10 ** 20))


class Model:
    """A grid for a WATCH of whole units, and what RULES with lengths of whole units tell cell by cell."""

    def __init__(self, rules, things, watch, unit=Fraction(1)):
        self.ways = dict(things)
        found = [moment for rule in rules for moment in rule_moments(rule, self.ways)]
        row = sorted({behind_unit(moment, watch[0], unit) for moment in [watch[0], *found]}, key=decimal_of)
        many = (worth(watch[1]) - worth(watch[0])) / unit
        self.unit, self.each = unit, len(row)
        self.moments = [shifted(moment, number(worth(watch[0]) + n * unit)) for n in range(int(many)) for moment in row]
        self.moments.append(watch[1])
        self.samples = []
        for one, other in zip(self.moments, self.moments[1:]):
            self.samples += [one, between_of(one, other)]
        self.samples.append(watch[1])

    def leaf(self, rule, moment):
        """Whether an in or near is so at a moment."""
        if rule[0] == "in":
            place = place_at(self.ways[rule[1]], moment)
            return place is not None and lies_in(rule[2], place)
        one, other = [place_at(self.ways[name], moment) for name in rule[1:3]]
        return one is not None and other is not None and is_not_above_zero(gap_worth(one, other, rule[3]))

    def cells(self, rule):
        """Whether a RULE is so, cell by cell."""
        word = rule[0]
        if word in ("in", "near"):
            return [self.leaf(rule, moment) for moment in self.samples]
        lots = [self.cells(inner) for inner in rule[1:] if isinstance(inner[0], str)]
        if word in ("and", "or"):
            return [{"and": all, "or": any}[word](row) for row in zip(*lots)]
        if word == "not":
            return [not so for so in lots[0]]
        if word == "since":
            return since_cells(*lots)
        far = int(worth(rule[1]) / self.unit) * 2 * self.each
        if word == "long":
            return [at >= far and all(lots[0][at - far:at + 1]) for at in range(len(lots[0]))]
        return [any(lots[0][max(0, at - far):at + 1]) for at in range(len(lots[0]))]

    def told(self, rule):
        """The STRETCHES of all moments at which a RULE is so."""
        told, begin = [], None
        for at, so in enumerate([*self.cells(rule), False]):
            if so and begin is None:
                begin = at
            if not so and begin is not None:
                last = at - 1
                told.append((self.moments[begin // 2], begin % 2 == 0, self.moments[(last + 1) // 2], last % 2 == 0))
                begin = None
        return tuple(told)


def since_cells(one, other):
    """Since, cell by cell: from s in other, through the rest of its cell, on to t."""
    told, going_on = [], False
    for at, (lasts, starts) in enumerate(zip(one, other)):
        told.append(starts or (going_on and lasts))
        # Behind a cell that is one moment there is no rest of it.
        going_on = (going_on and lasts) or (starts and (at % 2 == 0 or lasts))
    return told


def random_way(chance, many=4, far=4, span=6):
    """A WAY of at most so many REPORTS, with halves among the numbers; it waits now and then."""
    moments = sorted(chance.sample(range(-1, 2 * span + 2), chance.randint(2, many)))
    told, place = [], None
    for moment in moments:
        if place is None or chance.random() < 0.85:
            place = tuple([number(chance.randint(-far, far), chance.choice([1, 1, 1, 2])) for _ in range(2)])
        told.append((number(moment, 2), place))
    return tuple(told)


def random_leaf(chance, names):
    """An in or a near over a plain REGION, or one put together."""
    if chance.random() < 0.3:
        return ("near", chance.choice(names), chance.choice(names), number(chance.choice([0, 1, 2, 4, 5, 9, 13])))
    leaves = [("disc", tuple([number(chance.randint(-3, 3)) for _ in range(2)]), number(chance.choice([0, 1, 2, 4, 5, 9]))),
              ("half", *chance.choice([(1, 0), (0, 1), (-1, 2), (2, 1), (0, -1)]), chance.randint(-3, 3))]
    chance.shuffle(leaves)
    region = chance.choice([leaves[0], ("not", leaves[0]), ("and", *leaves), ("or", *leaves), ("and", leaves[0], ("not", leaves[1]))])
    return ("in", chance.choice(names), region)


def random_rule(chance, deep, names, leaves, unit):
    """A RULE at most so deep, over some of these in and near."""
    if deep == 1 or chance.random() < 0.1:
        return chance.choice(leaves)
    word = chance.choice(["and", "or", "not", "long", "lately", "since", "since"])
    inner = [random_rule(chance, deep - 1, names, leaves, unit) for _ in range(chance.randint(2, 3))]
    if word in ("and", "or"):
        return (word, *inner)
    if word == "since":
        return (word, *inner[:2])
    if word == "not":
        return (word, inner[0])
    return (word, number(unit * chance.choice([0, 1, 1, 2, 3])), inner[0])
