"""Images as texts."""

from steplinks.errors import BadText
from steplinks.layings import check_image
from steplinks.sheets import Scheme, places

UNREADABLE = "?"
MOST_FIGURES = 9
# The lines ahead of those of the records: their first words, and how many integers stand behind, None for any number.
HEADS = (("sheet", None), ("steps", None), ("numbers", 1))


def words_of(row):
    """What stands in the line of some entries."""
    return " ".join([UNREADABLE if entry is None else str(entry) for entry in row])


def image_text(scheme, image):
    """A scheme and an image as a text."""
    check_image(scheme, image)
    head = [("sheet",) + scheme.moduli, ("steps",) + scheme.steps, ("numbers", scheme.numbers)]
    return "\n".join([words_of(row) for row in head + list(image)])


def is_integer(word):
    """Whether a word is an integer as such texts have them: figures alone, without zeros ahead."""
    if not word.isdigit() or len(word) > MOST_FIGURES:
        return False
    return word == "0" or not word.startswith("0")


def is_head(line, head):
    """Whether a line has a first word and so many integers behind it."""
    first, many = head
    words = line.split(" ")
    if words[0] != first or not all([is_integer(word) for word in words[1:]]):
        return False
    return many is None or len(words) == many + 1


def is_entries(line):
    """Whether a line is a row of integers and signs for what can't be read."""
    return all([word == UNREADABLE or is_integer(word) for word in line.split(" ")])


def integers_of(line):
    """The tuple of the integers behind the first word of a line."""
    return tuple([int(word) for word in line.split(" ")[1:]])


def entries_of(line):
    """The tuple of the entries of a line."""
    return tuple([None if word == UNREADABLE else int(word) for word in line.split(" ")])


def lines_of(text):
    """The lines of a text, if each has the form that it should have."""
    if not isinstance(text, str):
        raise BadText(0)
    lines = text.split("\n")
    for at, head in enumerate(HEADS):
        if at == len(lines) or not is_head(lines[at], head):
            raise BadText(at + 1)
    for at in range(len(HEADS), len(lines)):
        if not is_entries(lines[at]):
            raise BadText(at + 1)
    return lines


def fits(row, kinds, many):
    """Whether some entries are those of a record, if there are so many kinds and records."""
    return len(row) == kinds and all([entry is None or entry < many for entry in row])


def read_image(text):
    """The pair of the scheme and the image that a text tells."""
    lines = lines_of(text)
    scheme = Scheme(integers_of(lines[0]), integers_of(lines[1]), integers_of(lines[2])[0])
    many = places(scheme)
    rows = [entries_of(line) for line in lines[len(HEADS):]]
    for at, row in enumerate(rows):
        if at == many or not fits(row, len(scheme.steps) + scheme.numbers, many):
            raise BadText(at + len(HEADS) + 1)
    if len(rows) < many:
        raise BadText(len(lines) + 1)
    return (scheme, tuple(rows))
