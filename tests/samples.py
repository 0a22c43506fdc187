"""Books of many kinds for tests: empty ones, small ones in plain numbers, and drawn ones."""

from helpers import book_of
from plumbnet.text import parse_book


class Draw:
    """Numbers that look drawn and are the same in every run."""

    def __init__(self, seed):
        self.state = seed * 7919 + 17

    def below(self, bound):
        self.state = (self.state * 1103515245 + 12345) % 2 ** 31
        return (self.state >> 8) % bound

    def pick(self, given):
        return given[self.below(len(given))]

    def number(self, size=60):
        return f"{self.below(2 * size + 1) - size}/{self.below(6) + 1}"

    def weight(self):
        return f"{self.below(9) + 1}/{self.below(4) + 1}"

    def terms(self, points, most):
        names = sorted({self.pick(points) for _ in range(1 + self.below(most))})
        return tuple((name, self.pick([-9, -3, -2, -1, -1, 1, 1, 2, 5])) for name in names)

    def difference(self, points):
        first = self.below(len(points))
        second = (first + 1 + self.below(len(points) - 1)) % len(points)
        low, high = sorted((points[first], points[second]))
        return self.pick([((low, -1), (high, 1)), ((low, 1), (high, -1))])


def drawn(seed, points, readings, differences=True, most=3):
    """A book with so many points and readings, of differences or of any terms."""
    draw = Draw(seed)
    names = [f"{'QPRSAZ'[at % 6]}{at}" for at in range(points)]
    told = []
    for at in range(readings):
        terms = draw.difference(names) if differences else draw.terms(names, most)
        told.append((f"r{(at * 7) % 25}", terms, draw.number(), draw.weight()))
    return book_of([(name, draw.number()) for name in names], told)


def written(*rows):
    return parse_book("\n".join(["book", *rows, "end", ""]))


def samples():
    """Books of all kinds by their names."""
    return {
        "empty": written(),
        "points": written("point B 3", "point A -1/2"),
        "example": written("point A 100", "point B 205/2", "reading d1 5/2 1 -1 A 1 B"),
        "one point": written("point A 0", "reading a 3 1 1 A", "reading b 4 2 1 A", "reading c 7 1/3 2 A"),
        "loop": written(
            "point C 5", "point A 0", "point B 2", "reading ab 2 1 -1 A 1 B", "reading bc 3 2 -1 B 1 C",
            "reading ac 6 1/2 -1 A 1 C",
        ),
        "fixed": written(
            "point A 10", "point B 12", "point C 15", "reading a 10 4 1 A", "reading ab 5/2 1 -1 A 1 B",
            "reading bc 3 2 -1 B 1 C", "reading ac 6 1/2 -1 A 1 C", "reading c 31/2 1 1 C",
        ),
        "two pieces": written(
            "point A 1", "point X 7", "point B 2", "point Y 9/2", "reading ab 2 1 -1 A 1 B",
            "reading xy 3 2 -1 X 1 Y", "reading ba -3 1/3 1 A -1 B",
        ),
        "unnamed points": written(
            "point N 4", "point A 1", "point M -4", "point B 2", "point O 0", "reading ab 2 1 -1 A 1 B",
            "reading b 5/3 3 1 B", "reading sum 9 1/2 2 A 3 B",
        ),
        "alike": written(
            "point A 1", "point B 2", "reading a 2 1 -1 A 1 B", "reading b 2 1 -1 A 1 B", "reading c 3 1/2 -1 A 1 B",
            "reading d -2 1 1 A -1 B", "reading e 20 3 -9 A 9 B",
        ),
        "no freedom": written(
            "point A 1", "point B 2", "point C 3", "reading a 5 1 1 A", "reading b 2 7 -2 A 3 B",
            "reading c -1/2 1/9 1 A 1 B -9 C",
        ),
        "other movements": written(
            "point A 1", "point B 2", "point C 3", "point D 0", "reading a 5 1 2 A 1 B", "reading b 2 7 4 A 2 B",
            "reading c -1/2 1/9 1 B 1 C",
        ),
        "drawn differences": drawn(1, 5, 8),
        "drawn terms": drawn(2, 5, 9, False),
        "drawn few": drawn(3, 7, 4, False),
        "drawn pieces": drawn(4, 8, 6),
    }


def full():
    """A book of 12 points and 24 readings."""
    return drawn(5, 12, 24, False)
