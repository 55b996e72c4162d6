"""The texts of integers, FRACTIONS and MOMENTS, and what stands in brackets.

The functions X_in tell None for what is not the very text of an X.
"""
from crossingstold.plain import is_fraction
from crossingstold.surds import is_root

# Python refuses to tell, and to read, integers of some thousand figures at once: so they are cut into blocks.
FIGURES = 64
BLOCK = 10 ** 64

LESSER = "low"
GREATER = "high"


def integer_text(number):
    """An integer as Python writes it."""
    if number < 0:
        return "-" + integer_text(-number)
    blocks = []
    while number >= BLOCK:
        number, low = divmod(number, BLOCK)
        blocks.append(str(low).zfill(FIGURES))
    blocks.append(str(number))
    blocks.reverse()
    return "".join(blocks)


def integer_in(text):
    """The integer whose text this is."""
    if not isinstance(text, str):
        return None
    figures = text.removeprefix("-")
    if not figures.isascii() or not figures.isdigit():
        return None
    if figures.startswith("0") and text != "0":
        return None
    head = len(figures) % FIGURES
    number = int("0" + figures[:head])
    for at in range(head, len(figures), FIGURES):
        number = number * BLOCK + int(figures[at:at + FIGURES])
    if text.startswith("-"):
        return -number
    return number


def fraction_text(fraction):
    """The text of a FRACTION."""
    top, bottom = fraction
    if bottom == 1:
        return integer_text(top)
    return integer_text(top) + "/" + integer_text(bottom)


def fraction_in(text):
    """The FRACTION whose text this is."""
    if not isinstance(text, str):
        return None
    words = text.split("/")
    if len(words) == 1:
        words.append("1")
    elif words[1] == "1":
        return None
    fraction = tuple([integer_in(word) for word in words])
    if is_fraction(fraction):
        return fraction
    return None


def words_of_moment(moment):
    """The text of a MOMENT."""
    if len(moment) == 2:
        return fraction_text(moment)
    a, b, c, side = moment
    word = LESSER if side < 0 else GREATER
    return f"root {integer_text(a)} {integer_text(b)} {integer_text(c)} {word}"


def moment_in(text):
    """The MOMENT whose text this is."""
    if not isinstance(text, str):
        return None
    words = text.split(" ")
    if len(words) == 1:
        return fraction_in(text)
    if len(words) != 5 or words[0] != "root" or words[4] not in (LESSER, GREATER):
        return None
    side = -1 if words[4] == LESSER else 1
    root = (integer_in(words[1]), integer_in(words[2]), integer_in(words[3]), side)
    if is_root(root):
        return root
    return None


def tree_in(text):
    """The words of a text in brackets: a tuple for each pair of brackets, of words and such tuples."""
    if not isinstance(text, str):
        return None
    opened = [[]]
    # A blank too many leaves an empty word, and one too few a word with a bracket in it: unlike texts, unlike trees.
    for word in text.replace("(", "( ").replace(")", " )").split(" "):
        if word == "(":
            opened.append([])
        elif word != ")":
            opened[-1].append(word)
        elif len(opened) == 1:
            return None
        else:
            closed = opened.pop()
            opened[-1].append(tuple(closed))
    if len(opened) != 1 or len(opened[0]) != 1:
        return None
    return opened[0][0]
