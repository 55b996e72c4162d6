"""REGIONS and PATCHES: what is one, and the texts of REGIONS; by functions that raise nothing."""
from crossingstold.plain import are_integers, fraction_order, is_from_zero, is_point, minus, times
from crossingstold.texts import fraction_in, fraction_text, integer_in, integer_text, tree_in

DEEPEST = 8
MOST_LEAVES = 30
MOST_INNER = 8
FEWEST_CORNERS = 3
MOST_CORNERS = 8


def is_half(value):
    """Whether this tuple, whose first item is "half", is a REGION."""
    if len(value) != 4 or not are_integers(value[1:]):
        return False
    return value[1] != 0 or value[2] != 0


def is_disc(value):
    """Whether this tuple, whose first item is "disc", is a REGION."""
    return len(value) == 3 and is_point(value[1]) and is_from_zero(value[2])


def inner_regions(value):
    """What stands behind "and", "or" or "not" in this tuple; none where the number of these is wrong."""
    inner = value[1:]
    if value[0] in ("and", "or") and len(inner) <= MOST_INNER:
        return inner
    if value[0] == "not" and len(inner) == 1:
        return inner
    return ()


def count_leaves(value, deep):
    """How many halves and discs there are in value, which lies deep in a REGION; 0 where it can't lie there."""
    if deep > DEEPEST or not isinstance(value, tuple) or not value or not isinstance(value[0], str):
        return 0
    if value[0] == "half":
        return 1 if is_half(value) else 0
    if value[0] == "disc":
        return 1 if is_disc(value) else 0
    many = 0
    for inner in inner_regions(value):
        inner_many = count_leaves(inner, deep + 1)
        many += inner_many
        # To go on only where it still may be a REGION keeps this short, however much is told twice in value.
        if inner_many == 0 or many > MOST_LEAVES:
            return 0
    return many


def is_region(value):
    """Whether value is a REGION."""
    return count_leaves(value, 1) > 0


def words_of_region(region):
    """The text of a REGION."""
    word = region[0]
    if word == "half":
        inner = [integer_text(number) for number in region[1:]]
    elif word == "disc":
        (x, y), square = region[1:]
        inner = [fraction_text(number) for number in (x, y, square)]
    else:
        inner = [words_of_region(part) for part in region[1:]]
    return "(" + " ".join([word, *inner]) + ")"


def region_from(tree, deep):
    """What a tree (see tree_in), which lies deep in a REGION, would be as a part of it; None if it can be none."""
    if deep > DEEPEST or not isinstance(tree, tuple):
        return None
    word, inner = tree[0], tree[1:]
    if word == "half":
        return (word, *[integer_in(number) for number in inner])
    if word == "disc":
        numbers = [fraction_in(number) for number in inner]
        return (word, tuple(numbers[:2]), *numbers[2:])
    return (word, *[region_from(part, deep + 1) for part in inner])


def read_shape(text):
    """The REGION whose text this is; None if there is none."""
    region = region_from(tree_in(text), 1)
    if is_region(region):
        return region
    return None


def turn(one, two, three):
    """A FRACTION: above 0 if the way by three POINTS turns against the clock, 0 if it is straight."""
    across = times(minus(two[0], one[0]), minus(three[1], one[1]))
    return minus(across, times(minus(two[1], one[1]), minus(three[0], one[0])))


def sides_of(patch):
    """The sides of a PATCH, pairs of corners, in sequence."""
    return [(patch[n - 1], patch[n]) for n in range(1, len(patch))] + [(patch[-1], patch[0])]


def point_order(one, other):
    """-1, 0 or 1: how two POINTS stand to one another, by x, then by y."""
    order = fraction_order(one[0], other[0])
    if order == 0:
        return fraction_order(one[1], other[1])
    return order


def is_patch(value):
    """Whether value is a PATCH."""
    if not isinstance(value, tuple) or not FEWEST_CORNERS <= len(value) <= MOST_CORNERS:
        return False
    if not all([is_point(corner) for corner in value]):
        return False
    if any([point_order(value[0], corner) >= 0 for corner in value[1:]]):
        return False
    # Neighbours alone would not do: a star turns the same way at each of its corners, too.
    turns = [turn(value[low], value[middle], value[high])
             for high in range(len(value)) for middle in range(high) for low in range(middle)]
    return all([fraction[0] > 0 for fraction in turns])
