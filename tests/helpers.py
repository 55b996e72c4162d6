"""What several tests need: refused calls, values of every kind, REGIONS by Python's own fractions."""
from decimal import Decimal, localcontext
from fractions import Fraction

DIGITS = 300


def refused(call, *args, **named):
    """(name of the error, its value) if the call raises one of the package's errors, else what it returns."""
    from crossingstold.errors import WatchError
    try:
        return call(*args, **named)
    except WatchError as error:
        return (type(error).__name__, error.value)


class Thing:
    """An object of no class of the package."""


def deep(many):
    """A tuple nested so deep."""
    value = ()
    for _ in range(many):
        value = (value,)
    return value


# None of these is a value that any parameter of the program allows.
NEVER = [
    None, True, False, 5, 10 ** 30, "", " ", "what", "[", "()", "1 1", (), (1,), (1, 2, 3), (1, 2, 3, 4, 5), [], [1, 1],
    [[1, 1]], {}, {1: 2}, {"a": (1, 1)}, Thing(), deep(59), (None,), (None, None), (True, True), ("a", "b"),
    ("1", "1"), ((), ()), ([], []), (1, None), (None, 1), (1, True), (True, 1), (1, "1"), b"1",
]

# Nearly FRACTIONS.
NEARLY_FRACTIONS = [
    (1, 0), (0, 0), (1, -1), (-1, -2), (2, 2), (2, 4), (-3, 9), (0, 2), (0, -1), (1, 2, 1), (1,), [1, 2], (True, 2),
    (1, True), (False, 1), ("1", 2), (1, None), ((1, 1), (1, 1)), ((1, 1), 1), (1, (1, 1)), 1, "1/2",
]

# Nearly ROOTS.
NEARLY_ROOTS = [
    (1, 0, -4, 1), (1, 0, 0, 1), (1, -2, 1, 1), (1, 0, 2, 1), (1, 1, 1, -1), (2, 0, -4, 1), (3, 3, -3, -1),
    (-1, 0, 2, 1), (0, 0, -2, 1), (0, 1, -2, 1), (1, 0, -2, 0), (1, 0, -2, 2), (1, 0, -2, True), (1, 0, -2, None),
    (True, 0, -2, 1), (1, False, -2, 1), (1, 0, -2), (1, 0, -2, 1, 1), [1, 0, -2, 1], (1, 0, (-2, 1), 1),
    ((1, 1), (0, 1), (-2, 1), 1), (1, 0, -2, "high"), ("1", 0, -2, 1), (1, 0, -2, -3), (4, -12, 9, 1), (6, -5, 1, 1),
    ((1, 0, -2), 1), "root 1 0 -2 high",
]

NO_FRACTIONS = NEVER + NEARLY_FRACTIONS + NEARLY_ROOTS + [(1, 0, -2, 1), (1, 0, -2, -1)]
NO_MOMENTS = NEVER + NEARLY_FRACTIONS + NEARLY_ROOTS
NO_LENGTHS = NO_FRACTIONS + [(-1, 1), (-1, 2)]

NO_POINTS = NEVER + [
    (1, 1), (1, 0, -2, 1), ((1, 1),), ((1, 1), (1, 1), (1, 1)), ((1, 1), 1), (1, (1, 1)), ((1, 1), (2, 2)), ((2, 2), (1, 1)),
    ((1, 1), (1, 0)), ((1, -1), (1, 1)), [(1, 1), (1, 1)], ([1, 1], (1, 1)), ((1, 1), [1, 1]), ((1, 0, -2, 1), (1, 1)),
    ((1, 1), (1, 0, -2, 1)), ((1, 1), None), (("1", 1), (1, 1)), ((True, 1), (1, 1)), ((1, 1), (1, True)),
]


def number(top, bottom=1):
    """A FRACTION, the bottom a plain one."""
    told = Fraction(top, bottom)
    return (told.numerator, told.denominator)


def decimal_of(moment):
    """A MOMENT's number to some hundred figures, by Python's own decimals."""
    with localcontext() as context:
        context.prec = DIGITS
        if len(moment) == 2:
            return Decimal(moment[0]) / Decimal(moment[1])
        a, b, c, side = moment
        return (-Decimal(b) + side * Decimal(b * b - 4 * a * c).sqrt()) / (2 * a)


def order_of(one, other):
    """-1, 0 or 1, by decimals."""
    with localcontext() as context:
        context.prec = DIGITS
        far = decimal_of(one) - decimal_of(other)
        if abs(far) < Decimal(10) ** -150:
            return 0
        return 1 if far > 0 else -1


def spot(x, y):
    """A POINT of integers or of Python's own fractions."""
    return (number(x), number(y))


def worth(fraction):
    """A FRACTION as one of Python's own."""
    return Fraction(*fraction)


def inside(region, x, y):
    """Whether a POINT lies in a REGION, by Python's own fractions."""
    word, *inner = region
    if word == "half":
        return inner[0] * x + inner[1] * y <= inner[2]
    if word == "disc":
        left, up = [worth(fraction) for fraction in inner[0]]
        return (x - left) ** 2 + (y - up) ** 2 <= worth(inner[1])
    found = [inside(part, x, y) for part in inner]
    return {"and": all(found), "or": any(found), "not": not found[0]}[word]


def random_region(chance, deep, leaves):
    """A REGION at most so deep, with at most so many halves and discs."""
    word = chance.choice(["half", "disc"]) if deep == 1 else chance.choice(["half", "disc", "and", "or", "not", "and"])
    if word == "half":
        a, b = 0, 0
        while a == b == 0:
            a, b = chance.randint(-3, 3), chance.randint(-3, 3)
        return (word, a, b, chance.randint(-6, 6))
    if word == "disc":
        return (word, tuple([number(chance.randint(-6, 6), chance.randint(1, 3)) for _ in range(2)]),
                number(chance.choice([0, 1, 2, 4, 5, 9, 25]), chance.choice([1, 1, 4])))
    if word == "not":
        return (word, random_region(chance, deep - 1, leaves))
    many = chance.randint(1, min(3, leaves))
    return (word, *[random_region(chance, deep - 1, leaves // many) for _ in range(many)])


def shown_wrong(test, function, value, *others, name="BadRegion"):
    """That the function raises this error with the very value."""
    with test.assertRaises(ValueError, msg=value) as caught:
        function(value, *others)
    test.assertEqual(type(caught.exception).__name__, name, value)
    test.assertIs(caught.exception.value, value)


def text_of(region):
    """The text of what is a REGION, or nearly one."""
    word, *inner = region
    if word == "half":
        told = [str(n) for n in inner]
    elif word == "disc":
        told = [str(worth(fraction)) for fraction in (*inner[0], inner[1])]
    else:
        told = [text_of(part) for part in inner]
    return "(" + " ".join([word, *told]) + ")"
