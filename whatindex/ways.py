"""The ways of an ask over a store and some indexes, and the pages that each touches."""

from whatindex.asks import settled
from whatindex.columns import column_names
from whatindex.conditions import by_column, fits, meeting, meets
from whatindex.errors import NoWay
from whatindex.pages import begun
from whatindex.stretches import are_fixed, gives_order, lead, stretch


class Search:
    """An ask over a store and some indexes, with what all its ways need to know."""

    def __init__(self, store, indexes, ask):
        wants, conditions, order, first = ask
        self.store = store
        self.by_design = {index.design: index for index in indexes}
        self.limits = by_column(conditions)
        self.order = order
        self.first = first
        self.needed = wants + tuple(self.limits) + order
        self.columns = column_names(store.form)
        self.by_number = {number: row for number, row in store.all_rows()}
        self.lists = store.pages()
        self.place_of = {number: at for at, page in enumerate(self.lists) for number in page}
        self.met = meeting(store, self.limits)
        # Two ways by one index, and each pair with it, come by the same rows.
        self.reached = {}


def has_key_way(search):
    """Whether the store's key leads to the rows."""
    store = search.store
    return store.kind == "sorted" or store.kind == "hashed" and are_fixed(store.key, search.limits)


def has_index_way(search, design):
    """Whether an index leads to the rows."""
    kind, columns = design
    if kind == "hash":
        return are_fixed(columns, search.limits)
    return kind == "tree" or columns[0] in search.limits


def has_only_way(search, design):
    """Whether an index has all that is asked for."""
    kind, columns = design
    return kind == "tree" and all([column in columns for column in search.needed])


def can_be_paired(search, design):
    """Whether an index leads to fewer than all rows, so that two such may be gone by together."""
    kind, columns = design
    if kind == "tree":
        return columns[0] in search.limits
    return has_index_way(search, design)


def told_ways(search):
    """The ways, in their order."""
    designs = sorted(search.by_design)
    told = [("walk",)]
    if has_key_way(search):
        told.append(("key",))
    told += [("index", design) for design in designs if has_index_way(search, design)]
    told += [("only", design) for design in designs if has_only_way(search, design)]
    paired = [design for design in designs if can_be_paired(search, design)]
    told += [("both", design, other) for design in paired for other in paired if design < other]
    return told


def sorting(search):
    """The pages touched by bringing the rows that are found into the order."""
    size = search.store.shape.rows
    many = len(search.met)
    if search.order == () or many <= size:
        return 0
    return 2 * begun(many, size)


def pages_with(search, numbers):
    """How many of the store's pages have rows of these numbers."""
    return len({search.place_of[number] for number in numbers})


def rows_at(search, numbers):
    """The rows of these numbers, as things (row, number)."""
    return [(search.by_number[number], number) for number in numbers]


def numbers_of(things):
    """The numbers of things."""
    return [number for values, number in things]


def run_pages(holder, leaves):
    """The pages touched by going down a run and along so many leaves."""
    if holder.pages() == 0:
        return 0
    return holder.levels() + max(1, leaves)


def go_along(search, holder, columns, most):
    """Along a stretch till `most` rows are found: pages touched, things that meet their own columns' conditions."""
    leaves, met, come = 0, 0, []
    parts = stretch(holder, columns, search.limits)
    for leaf, thing in [(at + 1, thing) for at, part in enumerate(parts) for thing in part]:
        leaves = leaf
        if fits(search.limits, columns, thing[0]):
            come.append(thing)
            if thing[1] in search.met:
                met += 1
            if met == most:
                break
    return run_pages(holder, leaves), come


def go_ordered(search, holder, columns):
    """Along a stretch, not farther than needed where its columns give the order, else with sorting."""
    if gives_order(columns, search.limits, search.order):
        return go_along(search, holder, columns, search.first)
    touched, come = go_along(search, holder, columns, None)
    return touched + sorting(search), come


def reach_by_bits(search, holder, column):
    """The pages of the values that meet the column's condition, and the numbers there."""
    told = [holder.found(value) for value in holder.kept() if meets(search.limits[column], value)]
    return sum([pages for numbers, pages in told]), [number for numbers, pages in told for number in numbers]


def reach_anew(search, design):
    """What an index alone touches, and the numbers of all rows that it comes to."""
    kind, columns = design
    holder = search.by_design[design].holder
    if kind == "bits":
        return reach_by_bits(search, holder, columns[0])
    if kind == "hash":
        things, touched = holder.found(lead(columns, search.limits))
    else:
        touched, things = go_along(search, holder, columns, None)
    return touched, numbers_of(things)


def reach(search, design):
    """As `reach_anew`, but reckoned once."""
    if design not in search.reached:
        search.reached[design] = reach_anew(search, design)
    return search.reached[design]


def follow_walk(search):
    """Through all pages of the store."""
    return len(search.lists) + sorting(search), search.columns, rows_at(search, list(search.by_number))


def follow_key(search):
    """By the store's key."""
    store = search.store
    if store.kind == "sorted":
        touched, things = go_ordered(search, store.holder, store.key)
    else:
        things, pages = store.holder.found(lead(store.key, search.limits))
        touched = pages + sorting(search)
    return touched, search.columns, rows_at(search, numbers_of(things))


def follow_index(search, design):
    """By an index to the store's pages."""
    if design[0] == "tree":
        touched, things = go_ordered(search, search.by_design[design].holder, design[1])
        numbers = numbers_of(things)
    else:
        pages, numbers = reach(search, design)
        touched = pages + sorting(search)
    return touched + pages_with(search, numbers), search.columns, rows_at(search, numbers)


def follow_only(search, design):
    """By a tree that has all that is needed, without the store."""
    touched, things = go_ordered(search, search.by_design[design].holder, design[1])
    return touched, design[1], things


def follow_both(search, design, other):
    """By two indexes to the store's pages with rows that both come to."""
    touched, numbers = reach(search, design)
    more, others = reach(search, other)
    shared = [number for number in numbers if number in others]
    touched += more + pages_with(search, shared) + sorting(search)
    return touched, search.columns, rows_at(search, shared)


def follow(search, way):
    """Go one of the told ways: pages touched, columns, and the things come to, whose values stand under these."""
    word, *designs = way
    if word == "walk":
        return follow_walk(search)
    if word == "key":
        return follow_key(search)
    if word == "index":
        return follow_index(search, designs[0])
    if word == "only":
        return follow_only(search, designs[0])
    return follow_both(search, designs[0], designs[1])


def ways(store, indexes, ask):
    """The ways of an ask with the pages that each touches, tuples (way, touched)."""
    search = Search(store, indexes, ask)
    return [(way, follow(search, way)[0]) for way in told_ways(search)]


def cheapest(store, indexes, ask):
    """The first of the ways that touch fewest pages, with these."""
    return min(ways(store, indexes, ask), key=lambda told: told[1])


def run(store, indexes, ask, way):
    """Go a way: the answer and the pages touched."""
    search = Search(store, indexes, ask)
    if way not in told_ways(search):
        raise NoWay("the thing is none of the ask's ways")
    touched, columns, things = follow(search, way)
    return settled(columns, things, ask), touched
