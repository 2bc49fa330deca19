"""Bits: numbers by values, a page for each stretch of numbers."""


class Bits:
    """Numbers by values; a page of a value stands for `width` numbers."""

    def __init__(self, width):
        self.width = width
        self.by_value = {}

    def twin(self):
        """Bits that lie just so, sharing no list with these."""
        other = Bits(self.width)
        other.by_value = {value: list(self.by_value[value]) for value in self.by_value}
        return other

    def stretch_of(self, number):
        """The place, from 0, of the stretch of numbers that has this one."""
        return (number - 1) // self.width

    def put(self, value, number):
        """Put a number under a value: the pages touched."""
        numbers = self.by_value.get(value, [])
        was_there = self.stretch_of(number) in [self.stretch_of(other) for other in numbers]
        self.by_value[value] = sorted(numbers + [number])
        return 2 if was_there else 1

    def drop(self, value, number):
        """Drop a number that is under a value: the pages touched."""
        self.by_value[value].remove(number)
        if not self.by_value[value]:
            del self.by_value[value]
        return 2

    def found(self, value):
        """The numbers of a value, rising, and how many pages it has."""
        numbers = self.by_value.get(value, [])
        return list(numbers), len({self.stretch_of(number) for number in numbers})

    def kept(self):
        """The values under which numbers are put, rising."""
        return sorted(self.by_value)
