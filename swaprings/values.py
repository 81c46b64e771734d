"""What the document calls an integer, a pair or counts, asked of any value."""

MOST_PEOPLE = 10 ** 30


def is_whole(value, least, most):
    """Tells whether the value is an integer from least to most."""
    # To Python a bool is an int, to the document it is no integer.
    if isinstance(value, bool) or not isinstance(value, int):
        return False
    return least <= value <= most


def is_tuple_of(value, many):
    """Tells whether the value is a tuple of so many parts."""
    return isinstance(value, tuple) and len(value) == many


def is_pair_of_shifts(value, shifts):
    """Tells whether the value is a pair of two of so many shifts, allowed or barred."""
    if not is_tuple_of(value, 2):
        return False
    return is_whole(value[0], 0, shifts - 1) and is_whole(value[1], 0, shifts - 1)


def are_counts(value, many):
    """Tells whether the value is a tuple of so many counts."""
    if not is_tuple_of(value, many):
        return False
    return all([is_whole(count, 0, MOST_PEOPLE) for count in value])


def is_set_of(value, many):
    """Tells whether the value is a strictly ascending tuple of some of so many shifts, people or other indices."""
    if not isinstance(value, tuple) or len(value) > many:
        return False
    return all([is_whole(index, 0, many - 1) for index in value]) and is_ascending(value)


def is_ascending(value):
    """Tells whether the tuple is strictly ascending."""
    return all([part < other for part, other in zip(value, value[1:])])
