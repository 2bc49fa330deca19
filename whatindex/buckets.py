"""Buckets: things by the mark of their values, page by page."""

from whatindex.pages import copied, first_with_room, page_with
from whatindex.values import mark


class Buckets:
    """Things in so many buckets, each of pages of one to `most` things."""

    def __init__(self, *, count, most):
        self.most = most
        self.chains = [[] for at in range(count)]

    def twin(self):
        """Buckets that lie just so, sharing no list with these."""
        other = Buckets(count=len(self.chains), most=self.most)
        other.chains = self.pages()
        return other

    def chain_at(self, values):
        """The place of the bucket of these values."""
        return mark(values) % len(self.chains)

    def put(self, thing):
        """Put a thing: the pages touched."""
        chain = self.chains[self.chain_at(thing[0])]
        at = first_with_room(chain, self.most)
        if at == len(chain):
            chain.append([thing])
            return at + 1
        chain[at].append(thing)
        return at + 2

    def drop(self, thing):
        """Drop a thing that is there: the pages touched."""
        chain = self.chains[self.chain_at(thing[0])]
        at = page_with(chain, thing)
        chain[at].remove(thing)
        if not chain[at]:
            del chain[at]
        return at + 2

    def pages(self):
        """Of each bucket its pages, lists of things."""
        return [copied(chain) for chain in self.chains]

    def found(self, values):
        """The things with these values, and how many pages their bucket has."""
        chain = self.chains[self.chain_at(values)]
        things = [thing for page in chain for thing in page if thing[0] == values]
        return things, len(chain)
