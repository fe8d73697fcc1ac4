"""Integers, and lists that stand for tuples."""


def is_whole(thing):
    """Whether thing is an integer; True and False are none."""
    return isinstance(thing, int) and not isinstance(thing, bool)


def as_tuples(thing):
    """The same thing with a tuple for each list, at every depth."""
    if isinstance(thing, (list, tuple)):
        return tuple([as_tuples(part) for part in thing])
    return thing
