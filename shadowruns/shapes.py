"""Integers, and lists that stand for tuples."""


def is_whole(thing):
    """Whether thing is an integer; True and False are none."""
    return isinstance(thing, int) and not isinstance(thing, bool)


def as_tuples(thing):
    """The same thing with a tuple for each list, at every depth."""
    if isinstance(thing, (list, tuple)):
        # a map, for its steps do not add to how deep the calls are
        return tuple(map(as_tuples, thing))
    return thing
