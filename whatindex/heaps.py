"""Heaps: things where there is room, page by page."""

from whatindex.pages import copied, first_with_room, page_with


class Heap:
    """Things in pages of at most `most`; pages without things stay."""

    def __init__(self, most):
        self.most = most
        self.held = []

    def twin(self):
        """A heap that lies just so, sharing no list with this one."""
        other = Heap(self.most)
        other.held = copied(self.held)
        return other

    def put(self, thing):
        """Put a thing: the pages touched."""
        at = first_with_room(self.held, self.most)
        if at == len(self.held):
            self.held.append([])
        self.held[at].append(thing)
        # A page that had none need not be read.
        return 1 if len(self.held[at]) == 1 else 2

    def drop(self, thing):
        """Drop a thing that is there: the pages touched."""
        self.held[page_with(self.held, thing)].remove(thing)
        return 2

    def pages(self):
        """The pages, lists of things."""
        return copied(self.held)
