"""The advisor: tables, made indexes and watched items, and all that is told of them."""

from whatindex.candidates import watched_candidates
from whatindex.choice import best
from whatindex.costs import cost, finding, item_fault
from whatindex.edits import edit
from whatindex.errors import BadItem, Made, NoDesign, NoItem, NoTable, NotMade, Taken, TooMany
from whatindex.indexes import Index, is_design
from whatindex.shapes import Shape
from whatindex.steps import steps
from whatindex.stores import Store
from whatindex.tasks import task_of
from whatindex.values import is_whole
from whatindex.ways import cheapest, run, ways

MOST_TABLES = 4
MOST_MADE = 10
MOST_WATCHED = 12


def as_compared(advisor):
    """All that counts where advisors are compared."""
    tables = {
        name: (store.form, store.kind, store.key, store.all_rows(), store.pages())
        for name, store in advisor.stores.items()
    }
    sizes = {named: index.size() for named, index in advisor.indexes.items()}
    return advisor.shape, tables, sizes, advisor.watched


class Advisor:
    """Tables by names, indexes by (table, kind, columns), and items by numbers as (table, item, weight)."""

    def __init__(self, shape=None):
        self.shape = Shape() if shape is None else shape
        self.stores = {}
        self.indexes = {}
        self.watched = {}
        self.last_number = 0
        self.by_asks = 0
        self.by_edits = 0
        self.by_makings = 0
        # What each watched item cost in all behind the last deed, and whose cost that deed changed.
        self.prices = {}
        self.moved = []

    def __eq__(self, other):
        return isinstance(other, Advisor) and as_compared(self) == as_compared(other)

    def __len__(self):
        return len(self.watched)

    def __repr__(self):
        return f"Advisor({len(self.stores)}, {len(self.indexes)}, {len(self.watched)})"

    def store_of(self, table):
        """The store of a table, which may be any thing."""
        if not isinstance(table, str) or table not in self.stores:
            raise NoTable(table)
        return self.stores[table]

    def store_for_item(self, table, item):
        """The store of a table of whose form any thing is an item."""
        store = self.store_of(table)
        at = item_fault(store.form, item)
        if at is not None:
            raise BadItem(at)
        return store

    def store_for_design(self, table, design):
        """The store of a table of whose form any thing is a design."""
        store = self.store_of(table)
        if not is_design(store.form, design):
            raise NoDesign("the thing is no design of the table's form")
        return store

    def watched_at(self, number):
        """The watched item of a number, which may be any thing."""
        if not is_whole(number) or number not in self.watched:
            raise NoItem(number)
        return self.watched[number]

    def indexes_of(self, table, also=(), without=()):
        """A table's made indexes as they lie, but some, and others as if made now; designs in rising order."""
        by_design = {index.design: index for (name, kind, columns), index in self.indexes.items() if name == table}
        chosen = {design: by_design[design] for design in by_design if design not in without}
        for design in also:
            if design not in chosen:
                chosen[design] = Index(self.store_of(table), design)
        return [chosen[design] for design in sorted(chosen)]

    def price_of(self, number):
        """What a watched item costs in all by the made indexes."""
        found, touched, keeping = self.cost(number)
        return found + touched + sum(keeping)

    def note_prices(self, table):
        """Keep in mind which watched items of a table cost otherwise now."""
        numbers = [number for number in sorted(self.watched) if self.watched[number][0] == table]
        fresh = {number: self.price_of(number) for number in numbers}
        self.moved = [number for number in numbers if fresh[number] != self.prices[number]]
        for number in numbers:
            self.prices[number] = fresh[number]

    def do_edit(self, table, item):
        """Do an item that is an edit: how many rows it put, dropped or gave another value."""
        store = self.store_of(table)
        indexes = self.indexes_of(table)
        found = finding(store, indexes, item)
        told = edit(store, indexes, item)
        self.by_edits += found + sum([touched + sum(kept) for touched, kept in told])
        # No page of the store is touched for a row that has the value already.
        many = len([touched for touched, kept in told if touched > 0])
        if many > 0:
            self.note_prices(table)
        return many

    def table(self, name, form, kind="heap", *, key=()):
        """A table comes."""
        if name in self.stores:
            raise Taken("a table has the name already")
        store = Store(self.shape, form, kind, key=key)
        if len(self.stores) >= MOST_TABLES:
            raise TooMany("there are as many tables as may be")
        self.stores[name] = store
        self.moved = []

    def put(self, table, row):
        """Put a row: its number."""
        store = self.store_of(table)
        store.check(row)
        self.do_edit(table, ("put", row))
        return store.given

    def drop(self, table, conditions):
        """Drop the rows that meet conditions: how many."""
        item = ("drop", conditions)
        self.store_for_item(table, item)
        return self.do_edit(table, item)

    def change(self, table, conditions, column, value):
        """Give the rows that meet conditions a value of one column: how many got another one."""
        item = ("set", conditions, column, value)
        self.store_for_item(table, item)
        return self.do_edit(table, item)

    def make(self, table, design):
        """Make an index."""
        store = self.store_for_design(table, design)
        named = (table,) + design
        if named in self.indexes:
            raise Made("the design is made already")
        if len(self.indexes) >= MOST_MADE:
            raise TooMany("as many designs are made as may be")
        index = Index(store, design)
        self.by_makings += len(store.pages()) + index.size()
        self.indexes[named] = index
        self.note_prices(table)

    def unmake(self, table, design):
        """Drop an index."""
        self.store_for_design(table, design)
        named = (table,) + design
        if named not in self.indexes:
            raise NotMade("the design isn't made")
        del self.indexes[named]
        self.note_prices(table)

    def watch(self, table, item, *, weight=1):
        """Watch an item: its number."""
        self.store_for_item(table, item)
        if len(self.watched) >= MOST_WATCHED:
            raise TooMany("as many items are watched as may be")
        self.last_number += 1
        self.watched[self.last_number] = (table, item, weight)
        self.prices[self.last_number] = self.price_of(self.last_number)
        self.moved = [self.last_number]
        return self.last_number

    def unwatch(self, number):
        """Watch an item no longer."""
        self.watched_at(number)
        del self.watched[number]
        del self.prices[number]
        self.moved = []

    def answer(self, table, ask):
        """The answer of an ask, by the cheapest way."""
        store = self.store_for_item(table, ("ask", ask))
        indexes = self.indexes_of(table)
        way, told = cheapest(store, indexes, ask)
        found, touched = run(store, indexes, ask, way)
        self.by_asks += touched
        return found

    def ways(self, table, ask, *, also=(), without=()):
        """The ways of an ask with the pages that each touches."""
        store = self.store_for_item(table, ("ask", ask))
        return ways(store, self.indexes_of(table, also, without), ask)

    def cost(self, number, *, also=(), without=()):
        """What a watched item costs: (finding, store, keeping)."""
        table, item, weight = self.watched_at(number)
        return cost(self.store_of(table), self.indexes_of(table, also, without), item)

    def made(self):
        """The made designs, (table, kind, columns), rising."""
        return sorted(self.indexes)

    def spent(self):
        """The pages touched so far: by answers, by edits, by makings."""
        return self.by_asks, self.by_edits, self.by_makings

    def touched(self):
        """The numbers of watched items that the last deed touched, rising."""
        return list(self.moved)

    def candidates(self):
        """The first candidates of the watched items, (table, kind, columns), rising."""
        return watched_candidates(self.stores, list(self.watched.values()))

    def told_designs(self, things):
        """Told designs, each once; refused by the first of which the table or design is none."""
        told = {}
        for table, kind, columns in things:
            self.store_for_design(table, (kind, columns))
            told[(table, kind, columns)] = True
        return list(told)

    def index_anew(self, named):
        """An index by a design, (table, kind, columns), as if made now."""
        return Index(self.store_of(named[0]), named[1:])

    def advise(self, *, room, among=None):
        """The designs that cost least within a room: (designs, total, paper)."""
        designs = sorted(self.told_designs(self.candidates() if among is None else among))
        indexes = [(named[0], self.index_anew(named)) for named in designs]
        task = task_of(self.stores, indexes, list(self.watched.values()))
        chosen, least, paper = best(task, room=room)
        return [designs[k] for k in chosen], least, paper

    def route(self, goal, *, room):
        """Steps from the made designs to a goal, no ask being slower meanwhile, or the stands if there are none."""
        wanted = self.told_designs(goal)
        designs = sorted(list(self.indexes) + [named for named in wanted if named not in self.indexes])
        if len(designs) > MOST_MADE:
            raise TooMany("these and the made designs are more than may be made")
        indexes = [
            (named[0], self.indexes[named] if named in self.indexes else self.index_anew(named)) for named in designs
        ]
        asks = [told for told in self.watched.values() if told[1][0] == "ask"]
        now = tuple([k for k, named in enumerate(designs) if named in self.indexes])
        aim = tuple([k for k, named in enumerate(designs) if named in wanted])
        word, told = steps(task_of(self.stores, indexes, asks), now, aim, room=room)
        if word == "steps":
            return word, [(deed, designs[k]) for deed, k in told]
        return word, [tuple([designs[k] for k in stand]) for stand in told]
