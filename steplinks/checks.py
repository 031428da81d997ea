"""What several modules ask of a value that may be anything."""

from steplinks.errors import NoNumber


def between(thing, low, high):
    """Whether a thing is an integer, and no flag, from low to high."""
    if isinstance(thing, bool) or not isinstance(thing, int):
        return False
    return low <= thing <= high


def all_between(thing, low, high):
    """Whether a thing is a tuple of nothing but integers from low to high."""
    if not isinstance(thing, tuple):
        return False
    return all([between(item, low, high) for item in thing])


def check_between(thing, low, high):
    """Raise NoNumber unless a thing is an integer from low to high."""
    if not between(thing, low, high):
        raise NoNumber()


def check_number(thing, high):
    """Raise NoNumber unless a thing is an integer from 0 to a bound."""
    check_between(thing, 0, high)
