"""Conditions: what they are, and which values meet them."""

from whatindex.columns import column_names, kind_of
from whatindex.values import is_between, is_value

MOST_CONDITIONS = 6


def are_bounds(kind, low, high):
    """Whether two things are a low and a high value of a kind, one perhaps None."""
    if low is None and high is None:
        return False
    return all([bound is None or is_value(kind, bound) for bound in (low, high)])


def is_condition(form, thing):
    """Whether a thing is a condition on a column of a form."""
    if not isinstance(thing, tuple) or len(thing) not in (3, 4):
        return False
    kind = kind_of(form, thing[0])
    if kind is None:
        return False
    if len(thing) == 3:
        return thing[1] == "is" and is_value(kind, thing[2])
    return thing[1] == "from" and are_bounds(kind, thing[2], thing[3])


def are_conditions(form, thing):
    """Whether a thing is a tuple of conditions on unlike columns of a form."""
    if not isinstance(thing, tuple) or len(thing) > MOST_CONDITIONS:
        return False
    if not all([is_condition(form, condition) for condition in thing]):
        return False
    return len(by_column(thing)) == len(thing)


def by_column(conditions):
    """The conditions, each under the name of its column."""
    return {condition[0]: condition for condition in conditions}


def meets(condition, value):
    """Whether a value of its column meets a condition."""
    if condition[1] == "is":
        return value == condition[2]
    return is_between(value, condition[2], condition[3])


def fits(limits, columns, values):
    """Whether values meet all conditions, as `by_column` tells them, on the columns that they stand under."""
    return all([meets(limits[column], value) for column, value in zip(columns, values) if column in limits])


def meeting(store, limits):
    """The numbers of a store's rows that meet all conditions, as `by_column` tells them, rising."""
    columns = column_names(store.form)
    return [number for number, row in store.all_rows() if fits(limits, columns, row)]
