"""Values of wrong kinds, handed in where a refusal is told."""

from roadbook.rules import Rule


class Hostile:
    """Whatever is asked of it fails."""

    def fail(self, *rest):
        raise RuntimeError("touched")

    __eq__ = __lt__ = __le__ = __gt__ = __ge__ = __len__ = __iter__ = fail
    __int__ = __index__ = __bool__ = __str__ = __repr__ = __hash__ = __getitem__ = fail


KINDLESS = [
    None, True, False, 0.0, 1.0, 5.5, float("nan"), float("inf"), 1j, b"", b"5", b"12:30", (), (5,), (0, 1), {},
    {0: 1}, set(), frozenset([1]), range(1, 3), object(), object, int, len, Rule, Hostile(), Hostile, iter([1]),
]
# No list holds a good number of any point, so none of these is good by chance.
LISTS = [[], [None], [[0]], ["0"], [True], [Hostile()]]
TEXTS = ["", " ", "0", "5", "always", "12:30", "0 12:30", "x"]
HUGE = [10 ** 30, -10 ** 30, 10 ** 5000, -10 ** 5000]

NO_NUMBERS = KINDLESS + LISTS + TEXTS + [Rule()]
NO_TEXTS = KINDLESS + LISTS + [0, 5, -1, Rule()] + HUGE
NO_RULES = KINDLESS + LISTS + TEXTS + [0, 5] + HUGE
NO_LISTS = KINDLESS + TEXTS + [0, 5, Rule()] + HUGE
# Names that no test gives to anything, and texts that are no names at all.
UNKNOWN = ["nowhere", "zz", "", " ", "A", "a ", " a", "a\n", "a1", "A" * 9, "a" * 9, "a" * 5000, "a#", "a b"]
NO_NAMES = NO_TEXTS + [
    "", " ", "A", "Ab", "aB", "a1", "1", "a ", " a", "a b", "a\n", "\n", "a-b", "a_b", "a.b", "a#", "#", "`", "{", "@",
    "[", "a:b", "abcdefghi", "a" * 9, "a" * 5000, "~",
]
