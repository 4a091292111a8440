"""Lines as rows of integers, which are quick to draw.

A step is told by the rank of its letter times the number of directions, plus its direction. A point is told by its
first part times a great side, plus its second part: these integers ascend as points do, and are added as points are.
"""

# More than twice as much as any part of a point of a line of 5000 steps, and of what is near it.
_SIDE = 32768


class Pen:
    """How short lines of a scheme are drawn."""

    def __init__(self, scheme):
        many = len(scheme.grid.units)
        codes = {letter: rank * many for rank, letter in enumerate(scheme.used)}
        self.many = many
        self.steps = [(letter, direction) for letter in scheme.used for direction in range(many)]
        self.axiom = [codes[letter] + direction for letter, direction in scheme.axiom]
        self._rows = [[codes[own] + (turn + direction) % many for own, turn in scheme[letter].row]
                      for letter, direction in self.steps]
        self._moves = [self.place_of(scheme.grid.units[direction]) for letter, direction in self.steps]
        self._is_closed = scheme.is_closed

    def grown(self, line):
        """The line of the next order."""
        rows = self._rows
        return [new for step in line for new in rows[step]]

    def line_of(self, order):
        """The line of an order."""
        line = self.axiom
        for _ in range(order):
            line = self.grown(line)
        return line

    def place_of(self, point):
        """The integer that tells a point."""
        return point[0] * _SIDE + point[1]

    def point_of(self, place):
        """The point that is told by an integer."""
        first = (place + _SIDE // 2) // _SIDE
        return (first, place - first * _SIDE)

    def places_of(self, line):
        """The list of the points to which the line leads, the first and the last one included."""
        moves = self._moves
        place = 0
        places = [place]
        for step in line:
            place = place + moves[step]
            places.append(place)
        return places

    def visits_of(self, places):
        """The list of the points of all visits of a line, from all to which it leads."""
        return places[:-1] if self._is_closed else places
