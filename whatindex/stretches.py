"""What an ask's conditions, by their columns, make of a row of columns."""


def is_fixed(limits, column):
    """Whether a column has an "is"."""
    return column in limits and limits[column][1] == "is"


def lead(columns, limits):
    """The values of the first columns, as far as these are fixed."""
    values = []
    for column in columns:
        if not is_fixed(limits, column):
            break
        values.append(limits[column][2])
    return tuple(values)


def are_fixed(columns, limits):
    """Whether all columns are fixed."""
    return len(lead(columns, limits)) == len(columns)


def bounds_at(columns, at, limits):
    """The low and high bound of the column at the place just behind the lead."""
    # It isn't fixed, so a condition on it is a "from".
    if at < len(columns) and columns[at] in limits:
        return limits[columns[at]][2:]
    return None, None


def stretch(holder, columns, limits):
    """The parts of a run, whose things' values stand under columns, that an ask goes along."""
    led = lead(columns, limits)
    low, high = bounds_at(columns, len(led), limits)
    return holder.parts(led, low=low, high=high)


def loose(columns, limits):
    """The columns that aren't fixed."""
    return [column for column in columns if not is_fixed(limits, column)]


def gives_order(columns, limits, order):
    """Whether things in rising order of their columns are in the order that is asked for."""
    # The lead's columns are all fixed, so none of them is left among the loose ones.
    return loose(columns, limits) == loose(order, limits)
