"""The rules of the language, as far as the form of the code tells."""

import unittest
from pathlib import Path

from language import breaches

PACKAGE = Path(__file__).resolve().parent.parent / "allrows"


class LanguageTest(unittest.TestCase):
    def test_package(self):
        texts = {path.name: path.read_text("utf-8") for path in sorted(PACKAGE.glob("*.py"))}
        self.assertEqual([], breaches(texts))

    def test_folder(self):
        for path in PACKAGE.iterdir():
            if path.name != "__pycache__":
                self.assertRegex(path.name, r"^[a-z_]+\.py$")

    def test_breaches_are_found(self):
        for code in ("import os\n", "from os import path\n", "xs = []\nxs.append(1)\n", "def f():\n    return 1 / 2\n", "def f(x):\n    return x is f\n",
                     "def f(xs):\n    return sum(x for x in xs)\n", "def f(xs):\n    seen = set(xs)\n    return len(seen)\n", "def f(id):\n    return id\n",
                     "def f(xs):\n    rows = zip(xs, xs)\n    return rows\n", "def f():\n    return open('a')\n", "def f():\n    return 'a%'\n",
                     "def f(x):\n    return x.title_of()\n", "def f():\n    pass\n" + "\n" * 400, "def f():\n" + "    pass\n" * 41, "x = 1\nx = 2\n",
                     "def f(xs):\n    xs.items = 3\n", "def f():\n    raise f()\n", "from allrows.aa import _f\n", "from allrows.aa import f\n\n\ndef g(f):\n    return f\n",
                     "class A:\n    def __hash__(self):\n        return 1\n", "class A:\n    def __str__(self):\n        return self.told_text()\n",
                     "class A:\n    def __len__(self):\n        return 1 + 1\n", "class A:\n    def one(self):\n        return 1\n\n    def two(self):\n        return self.one\n",
                     "def f(x):\n    return x.unheard_of\n", "class _A:\n    pass\n", "def f(x):\n    return f(x, x)\n", "def f(n):\n    return 2 ** n\n", "def f():\n    try:\n        f()\n    except ValueError:\n        pass\n",
                     "def f(x, xs):\n    x[(1, *xs)] = 2\n", "def f(x, xs):\n    return x[1, *xs]\n", "def f(x, xs):\n    return x[len([*xs]):]\n"):
            self.assertTrue(breaches({"bb.py": code}), code)
        # the same without the star in the index
        self.assertEqual([], breaches({"bb.py": "def f(x, xs):\n    key = (1, *xs)\n    x[key] = (*xs, x[0])\n"}))
        self.assertTrue(breaches({"aa.py": "from allrows.bb import x\n", "bb.py": "from allrows.aa import y\n"}))


if __name__ == "__main__":
    unittest.main()
