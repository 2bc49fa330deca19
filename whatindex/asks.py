"""Asks: what they are, and their plain answers."""

from whatindex.columns import are_columns, column_names, picked
from whatindex.conditions import are_conditions, by_column, fits
from whatindex.values import is_whole

MOST_WANTS = 6
MOST_ORDER = 4
MOST_FIRST = 20


def is_first(thing):
    """Whether a thing tells how many rows are asked for at most."""
    return thing is None or is_whole(thing) and 1 <= thing <= MOST_FIRST


def ask_fault(form, thing):
    """None of an ask, 0 of what is no tuple of four, else the place of the first wrong thing."""
    if not isinstance(thing, tuple) or len(thing) != 4:
        return 0
    wants, conditions, order, first = thing
    if not are_columns(form, wants, 1, MOST_WANTS):
        return 1
    if not are_conditions(form, conditions):
        return 2
    if not are_columns(form, order, 0, MOST_ORDER):
        return 3
    return None if is_first(first) else 4


def settled(columns, things, ask):
    """The answer of an ask by things, whose values stand under columns that have all it needs."""
    wants, conditions, order, first = ask
    limits = by_column(conditions)
    met = [
        (picked(columns, values, order), number, picked(columns, values, wants))
        for values, number in things
        if fits(limits, columns, values)
    ]
    return [wanted for ordered, number, wanted in sorted(met)][:first]


def plain(store, ask):
    """The answer of an ask by going through all rows of a store."""
    things = [(row, number) for number, row in store.all_rows()]
    return settled(column_names(store.form), things, ask)
