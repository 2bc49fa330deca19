"""The document's words on stages 2 to 6, followed one by one and slowly.

The tests hold the program against these, deed by deed.
"""

import pickle

from whatindex.values import mark


class PlainRun:
    """The document's words on runs, followed one by one and slowly."""

    def __init__(self, most, fan, things):
        self.most = most
        self.fan = fan
        self.all = []
        rest = sorted(things)
        while rest:
            self.all.append(rest[:most])
            rest = rest[most:]

    def levels(self):
        def told(many):
            return 0 if many <= 1 else 1 + told(-(-many // self.fan))
        return told(len(self.all))

    def pages(self):
        def told(many):
            return many if many <= 1 else many + told(-(-many // self.fan))
        return told(len(self.all))

    def put(self, thing):
        if not self.all:
            self.all = [[thing]]
            return 1
        touched = self.levels() + 1 + 1
        lesser = [at for at, leaf in enumerate(self.all) if leaf[0] < thing]
        at = lesser[-1] if lesser else 0
        leaf = self.all[at]
        leaf.append(thing)
        leaf.sort()
        if len(leaf) > self.most:
            touched += 1
            many = (len(leaf) + 1) // 2
            self.all.insert(at + 1, leaf[many:])
            del leaf[many:]
        return touched

    def drop(self, thing):
        touched = self.levels() + 1 + 1
        for leaf in self.all:
            if thing in leaf:
                leaf.remove(thing)
        self.all = [leaf for leaf in self.all if leaf]
        return touched

    def parts(self, same, low, high):
        told = []
        for leaf in self.all:
            part = []
            for values, number in leaf:
                if values[:len(same)] != same:
                    continue
                if low is not None and values[len(same)] < low:
                    continue
                if high is not None and values[len(same)] > high:
                    continue
                part.append((values, number))
            if part:
                told.append(part)
        return told


class PlainBuckets:
    """The document's words on buckets, followed one by one and slowly."""

    def __init__(self, count, most):
        self.count = count
        self.most = most
        self.all = [[] for _ in range(count)]

    def put(self, thing):
        pages = self.all[mark(thing[0]) % self.count]
        touched = 0
        for page in pages:
            touched += 1
            if len(page) < self.most:
                page.append(thing)
                return touched + 1
        pages.append([thing])
        return touched + 1

    def drop(self, thing):
        pages = self.all[mark(thing[0]) % self.count]
        touched = 0
        for page in pages:
            touched += 1
            if thing in page:
                page.remove(thing)
                if page == []:
                    pages.remove(page)
                return touched + 1
        raise AssertionError("the thing isn't there")

    def found(self, values):
        pages = self.all[mark(values) % self.count]
        return [thing for page in pages for thing in page if thing[0] == values], len(pages)


class PlainBits:
    """Numbers under values, as pairs."""

    def __init__(self, width):
        self.width = width
        self.pairs = set()

    def pages_of(self, value):
        return {(number - 1) // self.width for kept, number in self.pairs if kept == value}

    def put(self, value, number):
        touched = 2 if (number - 1) // self.width in self.pages_of(value) else 1
        self.pairs.add((value, number))
        return touched

    def drop(self, value, number):
        self.pairs.remove((value, number))
        return 2


class PlainHeap:
    """Pages of a heap."""

    def __init__(self, most):
        self.most = most
        self.all = []

    def put(self, thing):
        for page in self.all:
            if len(page) < self.most:
                page.append(thing)
                return 1 if len(page) == 1 else 2
        self.all.append([thing])
        return 1

    def drop(self, thing):
        for page in self.all:
            if thing in page:
                page.remove(thing)
        return 2


class PlainStore:
    """A store, its rows kept as dicts of values by columns."""

    def __init__(self, shape, form, kind, key):
        self.shape, self.form, self.kind, self.key = shape, form, kind, key
        self.names = [name for name, _ in form]
        self.rows = {}
        self.next = 1
        if kind == "heap":
            self.holder = PlainHeap(shape.rows)
        elif kind == "sorted":
            self.holder = PlainRun(shape.rows, shape.fan, [])
        else:
            self.holder = PlainBuckets(shape.buckets, shape.rows)

    def thing(self, number):
        return tuple(self.rows[number][column] for column in self.key), number

    def put(self, row):
        number, self.next = self.next, self.next + 1
        self.rows[number] = dict(zip(self.names, row))
        return number, self.holder.put(self.thing(number))

    def drop(self, number):
        touched = self.holder.drop(self.thing(number))
        del self.rows[number]
        return touched

    def change(self, number, column, value):
        if self.rows[number][column] == value:
            return 0
        if column not in self.key:
            self.rows[number][column] = value
            return 2
        touched = self.holder.drop(self.thing(number))
        self.rows[number][column] = value
        return touched + self.holder.put(self.thing(number))

    def pages(self):
        pages = self.holder.all
        if self.kind == "hashed":
            pages = [page for bucket in pages for page in bucket]
        return [[number for _, number in page] for page in pages]

    def row(self, number):
        return tuple(self.rows[number][column] for column in self.names)


class PlainIndex:
    """An index, told of rows as dicts of values by columns."""

    def __init__(self, store, design):
        self.design = design
        self.kind, self.columns = design
        self.shape = store.shape
        things = [self.thing(number, store.rows[number]) for number in sorted(store.rows)]
        if self.kind == "tree":
            self.holder = PlainRun(self.shape.entries, self.shape.fan, things)
            return
        if self.kind == "hash":
            self.holder = PlainBuckets(self.shape.buckets, self.shape.entries)
        else:
            self.holder = PlainBits(self.shape.bits)
        for thing in things:
            self.put_thing(thing)

    def thing(self, number, row):
        return tuple(row[column] for column in self.columns), number

    def put_thing(self, thing):
        return self.holder.put(thing[0][0], thing[1]) if self.kind == "bits" else self.holder.put(thing)

    def drop_thing(self, thing):
        return self.holder.drop(thing[0][0], thing[1]) if self.kind == "bits" else self.holder.drop(thing)

    def put(self, number, row):
        return self.put_thing(self.thing(number, row))

    def drop(self, number, row):
        return self.drop_thing(self.thing(number, row))

    def change(self, number, row, column, value):
        new = self.thing(number, {**row, column: value})
        if new == self.thing(number, row):
            return 0
        return self.drop_thing(self.thing(number, row)) + self.put_thing(new)

    def size(self):
        if self.kind == "tree":
            return self.holder.pages()
        if self.kind == "hash":
            return sum(len(pages) for pages in self.holder.all)
        return len({(value, (number - 1) // self.shape.bits) for value, number in self.holder.pairs})


def meets(condition, row):
    """Whether a dict of values by columns meets a condition."""
    column, word, *bounds = condition
    if word == "is":
        return row[column] == bounds[0]
    low, high = bounds
    return (low is None or row[column] >= low) and (high is None or row[column] <= high)


def meets_all(ask, row, columns=None):
    """Whether a row meets all conditions, or those on some columns alone."""
    return all(meets(each, row) for each in ask[1] if columns is None or each[0] in columns)


def plain_answer(store, ask):
    wants, _, order, first = ask
    numbers = [number for number in store.rows if meets_all(ask, store.rows[number])]
    numbers.sort(key=lambda number: [store.rows[number][column] for column in order] + [number])
    rows = [tuple(store.rows[number][column] for column in wants) for number in numbers]
    return rows if first is None else rows[:first]


class PlainWays:
    """The ways of an ask and what each touches."""

    def __init__(self, store, indexes, ask):
        self.store, self.ask = store, ask
        self.by_design = {index.design: index for index in indexes}
        self.wants, self.conditions, self.order, self.first = ask
        self.fixed = {each[0]: each[2] for each in self.conditions if each[1] == "is"}
        self.ranged = {each[0]: each[2:] for each in self.conditions if each[1] == "from"}

    def has_condition(self, column):
        return column in self.fixed or column in self.ranged

    def lead(self, columns):
        many = 0
        while many < len(columns) and columns[many] in self.fixed:
            many += 1
        return many

    def gives(self, columns):
        behind = [column for column in columns[self.lead(columns):] if column not in self.fixed]
        return behind == [column for column in self.order if column not in self.fixed]

    def stretch(self, run, columns):
        """Tuples (place of the leaf, dict of values, number)."""
        many = self.lead(columns)
        same = tuple(self.fixed[column] for column in columns[:many])
        low = high = None
        if many < len(columns) and columns[many] in self.ranged:
            low, high = self.ranged[columns[many]]
        told = []
        for place, leaf in enumerate(run.all):
            for thing in leaf:
                if any(thing in part for part in run.parts(same, low, high)):
                    told.append((place, dict(zip(columns, thing[0])), thing[1]))
        return told

    def along(self, run, columns, stops):
        """Pages of the run, and the numbers of things that meet the conditions on these columns."""
        leaves, numbers, found = set(), [], 0
        for place, values, number in self.stretch(run, columns):
            leaves.add(place)
            if meets_all(self.ask, values, columns):
                numbers.append(number)
                found += meets_all(self.ask, self.store.rows[number])
                if stops and found == self.first:
                    break
        if not run.all:
            return 0, []
        return run.levels() + max(1, len(leaves)), numbers

    def alone(self, design, stops=False):
        """What an index alone touches, and the numbers that it comes to."""
        kind, columns = design
        holder = self.by_design[design].holder
        if kind == "tree":
            return self.along(holder, columns, stops)
        if kind == "hash":
            things, pages = holder.found(tuple(self.fixed[column] for column in columns))
            return pages, [number for _, number in things]
        pairs = [pair for pair in holder.pairs if meets_all(self.ask, {columns[0]: pair[0]}, columns)]
        return len({(value, (number - 1) // holder.width) for value, number in pairs}), [pair[1] for pair in pairs]

    def store_pages(self, numbers):
        return sum(1 for page in self.store.pages() if set(page) & set(numbers))

    def sorting(self):
        met = sum(1 for row in self.store.rows.values() if meets_all(self.ask, row))
        size = self.store.shape.rows
        if self.order and met > size:
            return 2 * (-(-met // size))
        return 0

    def opens(self, design):
        kind, columns = design
        if kind == "hash":
            return all(column in self.fixed for column in columns)
        return kind == "tree" or self.has_condition(columns[0])

    def touched(self, way):
        if way == ("walk",):
            return len(self.store.pages()) + self.sorting()
        if way == ("key",) and self.store.kind == "hashed":
            values = tuple(self.fixed[column] for column in self.store.key)
            return self.store.holder.found(values)[1] + self.sorting()
        if way[0] == "both":
            (one, numbers), (two, others) = self.alone(way[1]), self.alone(way[2])
            return one + two + self.store_pages(set(numbers) & set(others)) + self.sorting()
        columns = self.store.key if way == ("key",) else way[1][1]
        is_run = way == ("key",) or way[1][0] == "tree"
        gives = is_run and self.gives(columns)
        stops = gives and self.first is not None
        if way == ("key",):
            pages, numbers = self.along(self.store.holder, columns, stops)
        else:
            pages, numbers = self.alone(way[1], stops)
        if way[0] == "index":
            pages += self.store_pages(numbers)
        return pages if gives else pages + self.sorting()

    def names(self):
        told = [("walk",)]
        if self.store.kind == "sorted":
            told.append(("key",))
        if self.store.kind == "hashed" and all(column in self.fixed for column in self.store.key):
            told.append(("key",))
        designs = sorted(self.by_design)
        told += [("index", design) for design in designs if self.opens(design)]
        needed = set(self.wants) | set(self.order) | {each[0] for each in self.conditions}
        told += [("only", design) for design in designs if design[0] == "tree" and needed <= set(design[1])]
        pairs = [each for each in designs if self.opens(each) and self.has_condition(each[1][0])]
        for at, design in enumerate(pairs):
            told += [("both", design, other) for other in pairs[at + 1:]]
        return told

    def told(self):
        return [(way, self.touched(way)) for way in self.names()]


def plain_ask(store, item):
    """The ask by which the rows of an item, but of a put, are found."""
    return item[1] if item[0] == "ask" else (tuple(store.names), item[1], (), None)


def plain_deed(store, index, item):
    """What a store, or an index of it, touches by the edit of an item; both are changed by it."""
    word = item[0]
    if word == "ask":
        return 0
    if word == "put":
        number, touched = store.put(item[1])
        return touched if index is None else index.put(number, store.rows[number])
    touched = 0
    for number in sorted(store.rows):
        row = dict(store.rows[number])
        if not all(meets(each, row) for each in item[1]):
            continue
        if word == "drop":
            pages = store.drop(number)
            touched += pages if index is None else index.drop(number, row)
        else:
            pages = store.change(number, item[2], item[3])
            touched += pages if index is None else index.change(number, row, item[2], item[3])
    return touched


def twin(thing):
    """A copy that shares nothing; quicker than copy.deepcopy, as it is needed often."""
    return pickle.loads(pickle.dumps(thing))


def plain_cost(store, indexes, item):
    """Point 20, on copies of its own."""
    finding = 0
    if item[0] != "put":
        finding = min(touched for _, touched in PlainWays(store, indexes, plain_ask(store, item)).told())
    edited = plain_deed(twin(store), None, item)
    return finding, edited, [plain_deed(twin(store), twin(index), item) for index in indexes]


def plain_offers(store, indexes, item):
    """Point 20's offers."""
    if item[0] == "put":
        return [(0, ())]
    designs = [index.design for index in indexes]
    told = PlainWays(store, indexes, plain_ask(store, item)).told()
    return [(touched, tuple(sorted(designs.index(design) for design in way[1:]))) for way, touched in told]
