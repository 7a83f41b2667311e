"""Trees of sums, and the places of numbers."""

from belowpoints.errors import NoPlace


class SumTree:
    def __init__(self, many):
        self.many = many
        # Places go from 1 on, so the cell at 0 stands for none and stays 0.
        self.cells = [0] * (many + 1)

    def put_to(self, place, number):
        self.need_place(place)
        cell = place
        while cell <= self.many:
            self.cells[cell] = self.cells[cell] + number
            cell = cell + lowest_bit(cell)

    def sum_of_first(self, many):
        if many < 0 or many > self.many:
            raise NoPlace(f"there are no first {many} numbers")
        told = 0
        cell = many
        while cell > 0:
            told = told + self.cells[cell]
            cell = cell - lowest_bit(cell)
        return told

    def sum_from_to(self, first, last):
        # Both are looked at ahead of the rest: also where last is less they must be places.
        self.need_place(first)
        self.need_place(last)
        if last < first:
            return 0
        return self.sum_of_first(last) - self.sum_of_first(first - 1)

    def number_at(self, place):
        return self.sum_from_to(place, place)

    def row_now(self):
        return tuple([self.number_at(place) for place in range(1, self.many + 1)])

    def cells_now(self):
        return tuple(self.cells[1:])

    def least_many(self, number):
        for many in range(self.many + 1):
            if self.sum_of_first(many) >= number:
                return many
        return None

    def need_place(self, place):
        if place < 1 or place > self.many:
            raise NoPlace(f"there is no place {place}")


def places_of(numbers):
    unlike = tuple(sorted(set(numbers)))
    places = {}
    for place, number in enumerate(unlike, start=1):
        places[number] = place
    return (unlike, tuple([places[number] for number in numbers]))


def lowest_bit(number):
    return number & -number
