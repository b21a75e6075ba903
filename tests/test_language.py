import os
import tempfile
import unittest

from language import faults_of

PACKAGE = os.path.join(os.path.dirname(os.path.dirname(os.path.abspath(__file__))), "roadbook")

OUTSIDE = [
    "import sys", "from os import path", "from . import errors", "from roadbook.errors import nothing",
    "from roadbook.looked import told", "x = 1\nx = 2", "x = [[1]]", "x = len([1])", "print(1)", "x = 1 / 2",
    "def told(*rest):\n    return rest", "def told(list):\n    return list", "def told():\n    yield 1",
    "def told(x: int):\n    return x", "def told(x):\n    return x / 2", "def told(x):\n    return open(x)",
    "def told(x):\n    return {y for y in x}", "def told(x):\n    return sum(y for y in x)",
    "def told(x):\n    y = set(x)\n    return len(y)", "def told(x):\n    return max(*x)",
    "def told(x):\n    return x.index(1, start=2)", "def told(x):\n    return [y for z in x for y in z]",
    "def told(x):\n    assert x", "def told(x):\n    return x.sort()", "def told(x):\n    return x.casefold()",
    "def told(x):\n    return x is x", "def told(x):\n    _y = x\n    return _y", "def told(x):\n    return f'{x.y}'",
    "def told(x):\n    return 2 ** x", "def told(x):\n    return 1.5", "def told(x):\n    return '%'",
    "def told(x):\n    try:\n        x()\n    except Exception:\n        return 1", "x = 'type'", "# an enum",
    "x = '\u00e4'",
    "def told():\n" + "    pass\n" * 40, "x = '" + "y" * 120 + "'", "def told(x):\n\treturn x",
    "class Told:\n    value = 1", "class Told:\n    def __hash__(self):\n        return 1",
    "class Told:\n    def say(self):\n        self.say = 1",
    "class Told:\n    def __init__(self):\n        self.items = 1",
    "def told(x):\n    y = zip(x, x)\n    return list(y)", "def told(x):\n    return x.items()",
    "def told(x):\n    return reversed(x)", "def told(x, y):\n    return max(range(x), range(y))",
    "def told(x, y):\n    return y.join(x.keys())", "class Told:\n    pass\n\n\ndef told():\n    return [Told]",
    "class Told:\n    pass\n\n\ndef told():\n    x = Told\n    return x()",
    "def told(x):\n    for y in x:\n        x.append(y)", "def told(x):\n    for y, z in x.items():\n        x[y] = 1",
    "def told(x):\n    for y, z in enumerate(x.z):\n        if z:\n            x.z.pop()\n            return y",
    "class Told:\n    def __init__(self):\n        return None", "class Told:\n    def sort(self):\n        return 1",
]

WITHIN = [
    "from roadbook.errors import RoadError", "x = 1\ny = [1, (2, 3)]",
    "def told(x, y=None):\n    return x if y else -x",
    "def told(x):\n    return len(set(x)) == len(x) and 1 in set(x) | set([2])",
    "def told(x):\n    return sorted(x, key=lambda y: y[0], reverse=True)",
    "def told(x):\n    try:\n        return int(x)\n    except ValueError:\n        return None",
    "def told(x):\n    return [f'{y}' for y in x if y != 1]",
    "def told(x):\n    return [y for y in x.items()] + sorted(x.values()) + list(reversed(list(x)))",
    "def told(x):\n    for y in range(3):\n        x.append(max(x.keys(), default=y))\n    return ' '.join(x.keys())",
    "def told(x, z):\n    for y in list(x):\n        x.pop(y)\n    for y in z:\n        x[y] = z",
    "class Told:\n    pass\n\n\ndef told(x):\n    return Told() if isinstance(x, (Told, int)) else None",
    "class Told:\n    def __init__(self):\n        self.left = 1\n\n    def say(self):\n        return self.left",
]


class LanguageTests(unittest.TestCase):
    def test_the_package(self):
        self.assertEqual(faults_of(PACKAGE, "roadbook"), [])

    def faults_in(self, text):
        with tempfile.TemporaryDirectory() as folder:
            errors = "class RoadError(ValueError):\n    pass\n"
            for name, told in [("__init__", ""), ("errors", errors), ("looked", text + "\n")]:
                with open(os.path.join(folder, name + ".py"), "w", encoding="utf-8") as file:
                    file.write(told)
            return faults_of(folder, "roadbook")

    def test_what_lies_outside_is_seen(self):
        for text in OUTSIDE:
            with self.subTest(text[:60]):
                self.assertNotEqual(self.faults_in(text), [])

    def test_what_lies_within_is_passed(self):
        for text in WITHIN:
            with self.subTest(text[:60]):
                self.assertEqual(self.faults_in(text), [])


if __name__ == "__main__":
    unittest.main()
