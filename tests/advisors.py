"""The document's words on candidates and the advisor, followed one by one and slowly; and one told by chance."""

import copy
import random

from tests.models import PlainIndex, PlainStore, PlainWays, meets, plain_answer, plain_ask, plain_cost, plain_offers
from tests.worlds import MOST, World
from whatindex.advisor import Advisor


def plain_candidates(form, ask):
    """Point 30 of one ask."""
    wants, conditions, order, _ = ask
    place = {name: at for at, (name, _) in enumerate(form)}
    fixed = sorted([each[0] for each in conditions if each[1] == "is"], key=place.get)
    bounded = sorted([each[0] for each in conditions if each[1] == "from"], key=place.get)
    ordered = [column for column in order if column not in fixed]
    needed = sorted(set(wants) | set(order) | {each[0] for each in conditions}, key=place.get)
    told = {("bits", (column,)) for column in fixed + bounded}
    if fixed:
        told.add(("hash", tuple(fixed[:3])))
    for row in (fixed + bounded[:1], fixed + ordered):
        if row:
            told.add(("tree", tuple(row[:4])))
    if len(needed) <= 4:
        row = fixed + bounded[:1]
        told.add(("tree", tuple(row + [column for column in needed if column not in row])))
    return sorted(told)


class PlainAdvisor:
    """Points 26 to 30 of deeds that aren't refused; nothing is kept from one deed to the next but what must be."""

    def __init__(self, shape):
        self.shape = shape
        self.stores, self.indexes, self.watched = {}, {}, {}
        self.next = 1
        self.asks = self.edits = self.makings = 0
        self.moved = []

    def of_table(self, table, also=(), without=()):
        told = {named[1:]: index for named, index in self.indexes.items() if named[0] == table}
        told = {design: index for design, index in told.items() if design not in without}
        told.update({design: PlainIndex(self.stores[table], design) for design in also})
        return [told[design] for design in sorted(told)]

    def cost(self, number, also=(), without=()):
        table, item, _ = self.watched[number]
        return plain_cost(self.stores[table], self.of_table(table, also, without), item)

    def in_all(self):
        told = {}
        for number in self.watched:
            finding, store, keeping = self.cost(number)
            told[number] = finding + store + sum(keeping)
        return told

    def note(self, ahead):
        now = self.in_all()
        self.moved = sorted(number for number in now if now[number] != ahead.get(number))

    def table(self, name, form, kind, key):
        self.stores[name] = PlainStore(self.shape, form, kind, key)
        self.moved = []

    def edit(self, table, item):
        """A put, drop or set: how many rows it put, dropped or gave another value."""
        store, indexes = self.stores[table], self.of_table(table)
        ahead = self.in_all()
        finding, pages, keeping = plain_cost(store, indexes, item)
        self.edits += finding + pages + sum(keeping)
        many = 0
        if item[0] == "put":
            number, _ = store.put(item[1])
            for index in indexes:
                index.put(number, store.rows[number])
            many = 1
        else:
            for number in sorted(store.rows):
                row = dict(store.rows[number])
                if not all(meets(each, row) for each in item[1]):
                    continue
                if item[0] == "drop":
                    store.drop(number)
                    for index in indexes:
                        index.drop(number, row)
                    many += 1
                else:
                    store.change(number, item[2], item[3])
                    for index in indexes:
                        index.change(number, row, item[2], item[3])
                    many += row[item[2]] != item[3]
        if many:
            self.note(ahead)
        return many

    def make(self, table, design):
        ahead = self.in_all()
        index = PlainIndex(self.stores[table], design)
        self.makings += len(self.stores[table].pages()) + index.size()
        self.indexes[(table, *design)] = index
        self.note(ahead)

    def unmake(self, table, design):
        ahead = self.in_all()
        del self.indexes[(table, *design)]
        self.note(ahead)

    def watch(self, table, item, weight):
        ahead = self.in_all()
        self.watched[self.next] = (table, item, weight)
        self.next += 1
        self.note(ahead)
        return self.next - 1

    def unwatch(self, number):
        del self.watched[number]
        self.moved = []

    def ways(self, table, ask, also=(), without=()):
        return PlainWays(self.stores[table], self.of_table(table, also, without), ask).told()

    def answer(self, table, ask):
        self.asks += min(touched for _, touched in self.ways(table, ask))
        return plain_answer(self.stores[table], ask)

    def candidates(self):
        told = set()
        for table, item, _ in self.watched.values():
            if item[0] != "put":
                store = self.stores[table]
                told |= {(table, *design) for design in plain_candidates(store.form, plain_ask(store, item))}
        return sorted(told)[:10]

    def task(self, designs, lying, asks_alone):
        """The task by designs in rising order, the made ones as they lie or all as if made anew."""
        designs = sorted(designs)
        indexes = []
        for named in designs:
            if lying and named in self.indexes:
                indexes.append(self.indexes[named])
            else:
                indexes.append(PlainIndex(self.stores[named[0]], named[1:]))
        items, keeps = [], [0] * len(designs)
        for table, item, weight in self.watched.values():
            if asks_alone and item[0] != "ask":
                continue
            places = [k for k, named in enumerate(designs) if named[0] == table]
            own = [indexes[k] for k in places]
            told = plain_offers(self.stores[table], own, item)
            items.append((weight, [(touched, tuple(places[at] for at in needs)) for touched, needs in told]))
            keeping = plain_cost(self.stores[table], own, item)[2]
            for k, pages in zip(places, keeping):
                keeps[k] += weight * pages
        return items, keeps, [index.size() for index in indexes]


class Told:
    """An advisor and the model, told the same by chance; the deeds that were not refused are kept."""

    def __init__(self, seed):
        self.chance = random.Random(seed)
        self.worlds = {}
        self.shape = World(seed).shape
        self.advisor, self.plain = Advisor(self.shape), PlainAdvisor(self.shape)
        self.deeds = []
        self.table()

    def table(self):
        name = "stuv"[len(self.worlds)]
        world = self.worlds[name] = World(self.chance.random())
        store = world.store
        self.plain.table(name, store.form, store.kind, store.key)
        return self.tell("table", name, store.form, store.kind, key=store.key)

    def tell(self, deed, *told, **more):
        self.deeds.append((deed, told, more))
        return getattr(self.advisor, deed)(*told, **more)

    def again(self):
        """An advisor that is told the same from the beginning."""
        advisor = Advisor(self.shape)
        for deed, told, more in self.deeds:
            getattr(advisor, deed)(*told, **more)
        return advisor

    def design(self, table):
        kind = self.chance.choice(("tree", "tree", "hash", "bits"))
        return (kind, self.worlds[table].columns(1, MOST[kind]))

    def some_designs(self, most):
        tables = [self.chance.choice(sorted(self.worlds)) for _ in range(self.chance.randint(0, most))]
        told = list({(table, *self.design(table)) for table in tables})
        self.chance.shuffle(told)
        return told

    def edit(self, table):
        """What both tell of an edit by chance: how many rows."""
        item = self.worlds[table].item()
        while item[0] == "ask" or item[0] == "put" and self.plain.stores[table].next > 60:
            item = self.worlds[table].item()
        if item[0] == "drop" and self.chance.random() < 0.7:
            # Not too many at once, so that rows are left.
            item = ("drop", self.narrow(table))
        if item[0] == "put":
            number = self.plain.stores[table].next
            self.plain.edit(table, item)
            return self.tell("put", table, item[1]), number
        wanted = self.plain.edit(table, item)
        return self.tell("drop" if item[0] == "drop" else "change", table, *item[1:]), wanted

    def narrow(self, table):
        world = self.worlds[table]
        return tuple((column, "is", world.value(column)) for column in world.names)

    def deed(self):
        """One deed by chance: what both tell of it."""
        table = self.chance.choice(sorted(self.worlds))
        named = (table, *self.design(table))
        word = self.chance.choice("put put put edit edit make unmake watch watch unwatch answer table".split())
        if word == "put" and self.plain.stores[table].next <= 60:
            row = self.worlds[table].row()
            number = self.plain.stores[table].next
            self.plain.edit(table, ("put", row))
            return self.tell("put", table, row), number
        if word == "make" and len(self.plain.indexes) < 5 and named not in self.plain.indexes:
            return self.tell("make", table, named[1:]), self.plain.make(table, named[1:])
        if word == "unmake" and len(self.plain.indexes) > 2:
            named = self.chance.choice(sorted(self.plain.indexes))
            return self.tell("unmake", named[0], named[1:]), self.plain.unmake(named[0], named[1:])
        if word == "watch" and len(self.plain.watched) < 6:
            item, weight = self.worlds[table].item(), self.chance.choice((1, 7, 100))
            return self.tell("watch", table, item, weight=weight), self.plain.watch(table, item, weight)
        if word == "unwatch" and len(self.plain.watched) > 3:
            number = self.chance.choice(sorted(self.plain.watched))
            return self.tell("unwatch", number), self.plain.unwatch(number)
        if word == "answer":
            ask = self.worlds[table].ask()
            return self.tell("answer", table, ask), self.plain.answer(table, ask)
        if word == "table" and len(self.worlds) < 4 and self.chance.random() < 0.3:
            return self.table(), None
        return self.edit(table)


def told_by(advisor, rooms=(0, 3, 8, 1000)):
    """All that an advisor tells without being changed, as a thing to be compared."""
    told = [
        repr(advisor), len(advisor), advisor.made(), advisor.spent(), advisor.touched(), advisor.candidates(),
        [advisor.advise(room=room) for room in rooms], [advisor.route([], room=room) for room in rooms],
    ]
    for number in range(1, 40):
        try:
            told.append((number, advisor.cost(number)))
        except IndexError:
            pass
    return copy.deepcopy(told)
