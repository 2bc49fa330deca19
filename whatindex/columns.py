"""Columns by their names, and the values that stand under them."""


def column_names(form):
    """The names of a form's columns, in order."""
    return tuple([name for name, kind in form])


def kind_of(form, thing):
    """The kind of the column that has this name, None where none has."""
    kinds = [kind for name, kind in form if name == thing]
    return kinds[0] if kinds else None


def are_columns(form, thing, least, most):
    """Whether a thing is a tuple of so many unlike names of a form's columns."""
    if not isinstance(thing, tuple) or not least <= len(thing) <= most:
        return False
    names = column_names(form)
    if not all([name in names for name in thing]):
        return False
    return len(set(thing)) == len(thing)


def picked(columns, values, wanted):
    """Of values that stand under columns those of the wanted columns."""
    return tuple([values[columns.index(column)] for column in wanted])


def changed(columns, values, column, value):
    """Values that stand under columns, with another one under one of these."""
    at = columns.index(column)
    return values[:at] + (value,) + values[at + 1:]
