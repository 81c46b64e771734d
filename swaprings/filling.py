"""Filling a table step by step, and the sums that show where it goes wrong."""

from swaprings.orders import four_against


def filled(rule, steps, sums):
    """Returns the table that is filled by the steps in turn, and the counts that are left over."""
    shifts = rule[0]
    rows_left, columns_left = list(sums[0]), list(sums[1])
    rows = [[0] * shifts for _ in range(shifts)]
    for i, j in steps:
        many = min(rows_left[i], columns_left[j])
        rows[i][j] = many
        rows_left[i] = rows_left[i] - many
        columns_left[j] = columns_left[j] - many
    return tuple([tuple(row) for row in rows]), (tuple(rows_left), tuple(columns_left))


def spoiled(rule, steps):
    """Returns the first step that may not go first among those from there on, and its least four, or None."""
    for t, step in enumerate(steps):
        four = four_against(rule, steps[t:], step)
        if four is not None:
            return step + four
    return None


def spoiled_sums(rule, steps):
    """Returns sums of two people for which filling by the steps goes wrong, None if they are an order."""
    found = spoiled(rule, steps)
    if found is None:
        return None
    i, j, k, l = found
    shifts = range(rule[0])
    rows = tuple([1 if shift in (i, k) else 0 for shift in shifts])
    columns = tuple([1 if shift in (j, l) else 0 for shift in shifts])
    return rows, columns
