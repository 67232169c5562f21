"""What kind of value a thing is, asked of anything that may be handed in."""


def is_whole(thing):
    """Tell whether a thing is a whole number; Python takes a truth for an int, the document does not."""
    return isinstance(thing, int) and not isinstance(thing, bool)


def is_tuple_of(thing, length):
    """Tell whether a thing is a tuple with so many items."""
    return isinstance(thing, tuple) and len(thing) == length


def are_wholes(thing):
    """Tell whether a thing is a tuple of whole numbers."""
    return isinstance(thing, tuple) and all(is_whole(item) for item in thing)
