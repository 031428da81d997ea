"""What several modules ask of a value that may be anything."""


def between(thing, low, high):
    """Whether a thing is an integer, and no flag, from low to high."""
    if isinstance(thing, bool) or not isinstance(thing, int):
        return False
    return low <= thing <= high


def all_between(thing, low, high):
    """Whether a thing is a tuple of nothing but integers from low to high."""
    if not isinstance(thing, tuple):
        return False
    return all([between(item, low, high) for item in thing])
