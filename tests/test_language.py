"""That the package keeps to LANGUAGE.md, as far as a look at its files can tell."""

import ast
import pathlib
import unittest

from language import faults_of, methods_of, package_faults

FOLDER = pathlib.Path(__file__).resolve().parent.parent / "sieve"

REFUSED = {
    "L2": ("import os", "from os import path", "from sieve.bits import *", "from .bits import parts"),
    "L3": ("x = 1\nif x:\n    pass", "x = 2 ** 5", "x = [n for n in (1, 2)]"),
    "L4": ("def f(*xs):\n    return xs", "def f(**xs):\n    return xs", "@g\ndef f():\n    return 1"),
    "L5": ("class A(B, C):\n    pass", "class A:\n    x = 1"),
    "L6": ("def f():\n    a = b = 1", "def f():\n    assert 1", "def f():\n    with g:\n        pass"),
    "L7": ("x = 1.5", "def f(a):\n    return a / 2", "def f(a):\n    return (n for n in a)", "x = b'a'",
           "def f(a):\n    return f'{a.b}'", "def f(a):\n    return f'{a:3}'"),
    "L8": ("def f(a):\n    return map(a, [])", "def f(a):\n    print(a)"),
    "L10": ("x = 1" + " " * 120, "def f():\n" + "    a = 1\n" * 40),
    "L12": ("def _f():\n    return 1", "def f():\n    _a = 1"),
    "L14": ("x = 1\t", "# \u00e9"),
    "L15": ("x = 1\nx = 2", "def f(list):\n    return 1", "def f():\n    id = 1",
            "from sieve.bits import parts\ndef f(parts):\n    return 1", "class A:\n    pass\ndef f():\n    A = 1",
            "x = {1: [2]}", "x = [(1, {})]", "x = [1]\ndef f():\n    return x", "x = {}\ndef f():\n    x[1] = 2",
            "x = [1]\ndef f():\n    x.append(2)", "x = [1]\ndef f(g):\n    g(x)"),
    "L17": ("# a type", "x = 'dataclasses'", "def f(a):\n    return a.format()"),
    "L19": ("def f(g):\n    try:\n        g()\n    except ValueError:\n        pass",
            "def f(g):\n    try:\n        g()\n    except (KeyError, Exception):\n        pass"),
    "L20": ("def f(a, b):\n    return a is b",),
    "L23": ("def f(a):\n    b = zip(a, a)", "def f(a):\n    return a.items()", "def f(a, g):\n    return g(range(a))"),
    "L24": ("def f(a):\n    b = set(a)", "def f(a):\n    for b in set(a):\n        pass", "def f():\n    return {1, 2}"),
    "L25": ("def f(a):\n    return a.title()", "def f(a):\n    a.sort()"),
    "L26": ("class A:\n    def __init__(self):\n        self.values = 1", "class A:\n    def title(self):\n        return 1",
            "def f(a):\n    a.real = 1"),
    "L27": ("x = '%'", "def f(n):\n    return 2 ** n"),
}

REFUSED_TOGETHER = {
    "L16": (
        {"sieve.a": "from sieve.b import x", "sieve.b": "from sieve.c import x", "sieve.c": "x = 1"},
        {"sieve.a": "from sieve.b import y", "sieve.b": "x = 1"},
        {"sieve.a": "from sieve.b import x\ny = 1", "sieve.b": "from sieve.a import y\nx = 1"},
    ),
    "L18": (
        {"sieve.a": "class A:\n    def x(self):\n        return 1", "sieve.b": "def f(b):\n    b.x = 1"},
        {"sieve.a": "class A:\n    pass", "sieve.b": "from sieve.a import A\ndef f():\n    return [A]"},
        {"sieve.a": "class A:\n    pass\ndef f():\n    return str(A)"},
    ),
}


class TheLook(unittest.TestCase):
    def test_what_is_ruled_out_is_seen(self):
        for rule, texts in REFUSED.items():
            for text in texts:
                seen = [fault for fault in faults_of(text) if rule in fault]
                self.assertTrue(seen, (rule, text))

    def test_what_is_ruled_out_of_files_together_is_seen(self):
        for rule, packages in REFUSED_TOGETHER.items():
            for texts in packages:
                seen = [fault for fault in package_faults(texts) if rule in fault]
                self.assertTrue(seen, (rule, texts))

    def test_what_is_allowed_is_passed_by(self):
        text = '"""Words."""\n\nfrom sieve.bits import parts\n\nTENS = (1, 10)\n\n\n' \
            "def f(a, b=1):\n    for k, x in enumerate(a):\n        if x is None:\n            return [k, b]\n" \
            "    return parts(2 ** 5, len(a))\n" \
            "\n\nNAMES = {1: f}\n\n\ndef g(a, d):\n    b = sorted(d.items())\n    c = [k for k, x in zip(a, b)]\n" \
            "    return NAMES[1] if a in NAMES and set(a) == set(c) else list(NAMES)\n"
        self.assertEqual(faults_of(text), [])

    def test_what_is_allowed_of_files_together_is_passed_by(self):
        texts = {
            "sieve.a": "class A(ValueError):\n    def __init__(self, x):\n        self.x = x\n",
            "sieve.b": "from sieve.a import A\n\n\nclass B(A):\n    def __init__(self, x):\n        A.__init__(self, x)\n"
            "\n\ndef f(b):\n    if isinstance(b, B):\n        raise A(b.x)\n    try:\n        return f(b)\n"
            "    except A as e:\n        return e.x\n",
        }
        self.assertEqual(package_faults(texts), [])


class ThePackage(unittest.TestCase):
    def test_nothing_else_lies_in_it(self):
        files = [file for file in FOLDER.rglob("*") if "__pycache__" not in file.parts]
        for file in files:
            self.assertTrue(file.is_file() and file.suffix == ".py", file)
            self.assertRegex(file.stem, r"^([a-z][a-z0-9_]*|__init__|__main__)$")
            self.assertFalse(file.stem.startswith("test"), file)
        self.assertIn("__init__.py", [file.name for file in files])

    def test_each_file_keeps_to_the_rules(self):
        texts = {file.name: file.read_bytes().decode("ascii") for file in sorted(FOLDER.glob("*.py"))}
        methods = [name for text in texts.values() for name in methods_of(ast.parse(text))]
        for name, text in texts.items():
            self.assertEqual(faults_of(text, methods), [], name)
        modules = {"sieve." + name[:-len(".py")]: text for name, text in texts.items()}
        self.assertEqual(package_faults(modules), [])


if __name__ == "__main__":
    unittest.main()
