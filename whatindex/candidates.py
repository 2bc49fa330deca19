"""Candidates: designs that may be worth making for an ask."""

from whatindex.columns import column_names
from whatindex.conditions import by_column
from whatindex.costs import ask_of
from whatindex.indexes import MOST_BY_KIND
from whatindex.stretches import is_fixed, loose

MOST_CANDIDATES = 10


def drafts(form, ask):
    """The kinds and rows of columns of an ask's candidates, empty ones and like ones among them."""
    wants, conditions, order, first = ask
    limits = by_column(conditions)
    names = column_names(form)
    fixed = [column for column in names if is_fixed(limits, column)]
    bounded = [column for column in names if column in limits and column not in fixed]
    led = fixed + bounded[:1]
    needed = [column for column in names if column in wants + order or column in limits]
    most = MOST_BY_KIND["tree"]
    told = [
        ("hash", fixed[:MOST_BY_KIND["hash"]]),
        ("tree", led[:most]),
        ("tree", (fixed + loose(order, limits))[:most]),
    ]
    if len(needed) <= most:
        told.append(("tree", led + [column for column in needed if column not in led]))
    return told + [("bits", [column]) for column in fixed + bounded]


def candidates(form, ask):
    """The candidates of an ask: designs, rising, each once."""
    return sorted({(kind, tuple(columns)) for kind, columns in drafts(form, ask) if columns})


def watched_candidates(stores, watched):
    """The first candidates of watched items, (table, item, weight), as (table, kind, columns), rising."""
    told = {}
    for table, item, weight in watched:
        if item[0] != "put":
            form = stores[table].form
            for kind, columns in candidates(form, ask_of(form, item)):
                told[(table, kind, columns)] = True
    return sorted(told)[:MOST_CANDIDATES]
