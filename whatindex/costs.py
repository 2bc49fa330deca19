"""Items: what they are, what each costs over a store with some indexes, and what these offer it."""

from whatindex.asks import ask_fault
from whatindex.columns import column_names, kind_of
from whatindex.conditions import are_conditions
from whatindex.edits import edit
from whatindex.stores import Store
from whatindex.values import is_row, is_value
from whatindex.ways import cheapest, ways

# How many things an item has, by its word.
COUNTS = {"ask": 2, "put": 2, "drop": 2, "set": 4}


def is_second(form, word, thing):
    """Whether a thing may stand behind an item's word."""
    if word == "ask":
        return ask_fault(form, thing) is None
    if word == "put":
        return is_row(form, thing)
    return are_conditions(form, thing)


def item_fault(form, thing):
    """None of an item, 0 of what is none by its word or count, else the place of the first wrong thing."""
    if not isinstance(thing, tuple) or not thing or not isinstance(thing[0], str):
        return 0
    word = thing[0]
    if COUNTS.get(word) != len(thing):
        return 0
    if not is_second(form, word, thing[1]):
        return 1
    if word != "set":
        return None
    kind = kind_of(form, thing[2])
    if kind is None:
        return 2
    return None if is_value(kind, thing[3]) else 3


def ask_of(form, item):
    """The ask by which the rows of an item, but of a put, are found."""
    if item[0] == "ask":
        return item[1]
    return column_names(form), item[1], (), None


def finding(store, indexes, item):
    """The pages touched by finding the rows of an item."""
    if item[0] == "put":
        return 0
    way, touched = cheapest(store, indexes, ask_of(store.form, item))
    return touched


def upkeep(store, indexes, item):
    """What an item's edit would touch: the store's pages, and a list of those of each index."""
    bare = Store(store.shape, store.form)
    told = edit(store.twin(), [index.twin(bare) for index in indexes], item)
    keeping = [sum([kept[at] for touched, kept in told]) for at in range(len(indexes))]
    return sum([touched for touched, kept in told]), keeping


def cost(store, indexes, item):
    """What an item costs: (finding, store, keeping)."""
    touched, keeping = upkeep(store, indexes, item)
    return finding(store, indexes, item), touched, keeping


def offers(store, indexes, item):
    """For each way to find an item's rows its pages and the places of the indexes that it needs."""
    if item[0] == "put":
        return [(0, ())]
    place_of = {index.design: at for at, index in enumerate(indexes)}
    told = ways(store, indexes, ask_of(store.form, item))
    return [(touched, tuple(sorted([place_of[design] for design in way[1:]]))) for way, touched in told]
