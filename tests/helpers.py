"""What several tests need: refused calls, and values of every kind."""
from decimal import Decimal, localcontext

DIGITS = 300


def refused(call, *args, **named):
    """(name of the error, its value) if the call raises one of the package's errors, else what it returns."""
    from crossingstold.errors import WatchError
    try:
        return call(*args, **named)
    except WatchError as error:
        return (type(error).__name__, error.value)


class Thing:
    """An object of no class of the package."""


def deep(many):
    """A tuple nested so deep."""
    value = ()
    for _ in range(many):
        value = (value,)
    return value


# None of these is a value that any parameter of the program allows.
NEVER = [
    None, True, False, 5, 10 ** 30, "", " ", "what", "[", "()", "1 1", (), (1,), (1, 2, 3), (1, 2, 3, 4, 5), [], [1, 1],
    [[1, 1]], {}, {1: 2}, {"a": (1, 1)}, Thing(), deep(59), (None,), (None, None), (True, True), ("a", "b"),
    ("1", "1"), ((), ()), ([], []), (1, None), (None, 1), (1, True), (True, 1), (1, "1"), b"1",
]

# Nearly FRACTIONS.
NEARLY_FRACTIONS = [
    (1, 0), (0, 0), (1, -1), (-1, -2), (2, 2), (2, 4), (-3, 9), (0, 2), (0, -1), (1, 2, 1), (1,), [1, 2], (True, 2),
    (1, True), (False, 1), ("1", 2), (1, None), ((1, 1), (1, 1)), ((1, 1), 1), (1, (1, 1)), 1, "1/2",
]

# Nearly ROOTS.
NEARLY_ROOTS = [
    (1, 0, -4, 1), (1, 0, 0, 1), (1, -2, 1, 1), (1, 0, 2, 1), (1, 1, 1, -1), (2, 0, -4, 1), (3, 3, -3, -1),
    (-1, 0, 2, 1), (0, 0, -2, 1), (0, 1, -2, 1), (1, 0, -2, 0), (1, 0, -2, 2), (1, 0, -2, True), (1, 0, -2, None),
    (True, 0, -2, 1), (1, False, -2, 1), (1, 0, -2), (1, 0, -2, 1, 1), [1, 0, -2, 1], (1, 0, (-2, 1), 1),
    ((1, 1), (0, 1), (-2, 1), 1), (1, 0, -2, "high"), ("1", 0, -2, 1), (1, 0, -2, -3), (4, -12, 9, 1), (6, -5, 1, 1),
    ((1, 0, -2), 1), "root 1 0 -2 high",
]

NO_FRACTIONS = NEVER + NEARLY_FRACTIONS + NEARLY_ROOTS + [(1, 0, -2, 1), (1, 0, -2, -1)]
NO_MOMENTS = NEVER + NEARLY_FRACTIONS + NEARLY_ROOTS
NO_LENGTHS = NO_FRACTIONS + [(-1, 1), (-1, 2)]

NO_POINTS = NEVER + [
    (1, 1), (1, 0, -2, 1), ((1, 1),), ((1, 1), (1, 1), (1, 1)), ((1, 1), 1), (1, (1, 1)), ((1, 1), (2, 2)), ((2, 2), (1, 1)),
    ((1, 1), (1, 0)), ((1, -1), (1, 1)), [(1, 1), (1, 1)], ([1, 1], (1, 1)), ((1, 1), [1, 1]), ((1, 0, -2, 1), (1, 1)),
    ((1, 1), (1, 0, -2, 1)), ((1, 1), None), (("1", 1), (1, 1)), ((True, 1), (1, 1)), ((1, 1), (1, True)),
]


def number(top, bottom=1):
    """A FRACTION, the bottom a plain one."""
    from fractions import Fraction
    told = Fraction(top, bottom)
    return (told.numerator, told.denominator)


def decimal_of(moment):
    """A MOMENT's number to some hundred figures, by Python's own decimals."""
    with localcontext() as context:
        context.prec = DIGITS
        if len(moment) == 2:
            return Decimal(moment[0]) / Decimal(moment[1])
        a, b, c, side = moment
        return (-Decimal(b) + side * Decimal(b * b - 4 * a * c).sqrt()) / (2 * a)


def order_of(one, other):
    """-1, 0 or 1, by decimals."""
    with localcontext() as context:
        context.prec = DIGITS
        far = decimal_of(one) - decimal_of(other)
        if abs(far) < Decimal(10) ** -150:
            return 0
        return 1 if far > 0 else -1
