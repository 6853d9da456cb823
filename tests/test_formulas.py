"""Promises 5 to 7: formulas."""

import itertools
import operator
import random
import unittest

from wakesafe.errors import InvalidFormula, InvalidText, NoName
from wakesafe.formulas import Formula
from tests.helper import Checks, LETTERS, NAMES, RESERVED, no_bools, no_names

SIGNS = {"&": operator.and_, "|": operator.or_, "^": operator.ne}
OPERATORS = {"&": operator.and_, "|": operator.or_, "^": operator.xor}
TEXTS = ["x", "1", "0", "~ x", "~ 1", "& x y", "| x y", "^ x y", "& x x", "~ ~ x", "| & x y & x ~ y", "& 1 x", "^ 0 ~ 1",
         "& & a b & c d", "| a | b | c d", "^ ~ & a 0 | 1 bcd", "& open save"]


def truth(text, known):
    """The value of a formula's text, found in the plainest way."""
    return truth_of(text.split(" "), known)


def truth_of(words, known):
    word = words.pop(0)
    if word == "~":
        return not truth_of(words, known)
    if word in SIGNS:
        left = truth_of(words, known)
        return SIGNS[word](left, truth_of(words, known))
    return word == "1" if word in "01" else known[word]


def choices(names):
    """All choices of values of some names."""
    for values in itertools.product([False, True], repeat=len(names)):
        yield dict(zip(names, values))


def some_text(chance, names, depth):
    """A formula's text."""
    sign = chance.choice(["&", "|", "^", "~", ""])
    if depth == 0 or sign == "":
        return chance.choice(names + ["0", "1"][:chance.choice([0, 0, 2])])
    count = 1 if sign == "~" else 2
    return " ".join([sign] + [some_text(chance, names, depth - 1) for _ in range(count)])


def some_texts(seed, many):
    """Many formulas' texts."""
    chance = random.Random(seed)
    return [some_text(chance, chance.sample(["a", "b", "c", "d"], chance.randint(1, 3)), 3) for _ in range(many)]


def built(text):
    """The formula with a text, made by the operators alone."""
    return built_of(text.split(" "))


def built_of(words):
    word = words.pop(0)
    if word == "~":
        return ~built_of(words)
    if word in OPERATORS:
        left = built_of(words)
        return OPERATORS[word](left, built_of(words))
    return Formula.always(word == "1") if word in "01" else Formula.of(word)


class MakingTest(Checks, unittest.TestCase):
    def test_of(self):
        for name in NAMES + list(LETTERS):
            formula = Formula.of(name)
            self.assertIs(type(formula), Formula)
            self.assertEqual((str(formula), formula.names, formula.needs), (name, (name,), (name,)))
            self.assertIs(formula.value({name: True}), True)
            self.assertIs(formula.value({name: False}), False)

    def test_of_no_name(self):
        for value in no_names():
            self.check_error(InvalidFormula, {"word": "name"}, Formula.of, value)

    def test_always(self):
        for value, text in ((True, "1"), (False, "0")):
            formula = Formula.always(value)
            self.assertEqual((str(formula), formula.names, formula.needs), (text, (), ()))
            self.assertIs(formula.value({}), value)
            self.assertIs(formula.under({}), value)

    def test_always_no_bool(self):
        for value in no_bools():
            self.check_error(InvalidFormula, {"word": "value"}, Formula.always, value)

    def test_operators(self):
        p = Formula.of("x")
        q = Formula.of("y")
        for known in choices(["x", "y"]):
            x, y = known["x"], known["y"]
            self.assertIs((p & q).value(known), x and y)
            self.assertIs((p | q).value(known), x or y)
            self.assertIs((p ^ q).value(known), x != y)
            self.assertIs((~p).value(known), not x)

    def test_other_operands(self):
        signs = [operator.and_, operator.or_, operator.xor, operator.le, operator.ge]
        self.check_operands(Formula.of("x"), signs)
        self.check_operands(Formula.always(True), signs)


class TextTest(Checks, unittest.TestCase):
    def test_str(self):
        p = Formula.of("x")
        q = Formula.of("y")
        self.assertEqual(str(p & q), "& x y")
        self.assertEqual(str(p | q), "| x y")
        self.assertEqual(str(p ^ q), "^ x y")
        self.assertEqual(str(~p), "~ x")
        self.assertEqual(str(q & p), "& y x")
        self.assertEqual(str(p & p), "& x x")
        self.assertEqual(str(~~p), "~ ~ x")
        self.assertEqual(str((p & q) | (p ^ ~q)), "| & x y ^ x ~ y")
        self.assertEqual(str(p & Formula.always(True)), "& x 1")
        self.assertEqual(str((p & q) & (p & q)), "& & x y & x y")

    def test_names(self):
        self.assertEqual(Formula.read("& zz | b ^ a b").names, ("a", "b", "zz"))
        self.assertEqual(Formula.read("& x ~ x").names, ("x",))
        self.assertEqual(Formula.read("& 1 ~ 0").names, ())
        self.assertEqual((Formula.of("y") ^ Formula.of("x")).names, ("x", "y"))
        self.assertEqual((~Formula.of("y")).names, ("y",))

    def test_read_and_str(self):
        for text in TEXTS + some_texts(1, 100):
            formula = Formula.read(text)
            self.assertIs(type(formula), Formula)
            self.assertEqual(str(formula), text)
            self.assertEqual(str(built(text)), text)
            self.assertEqual(formula.names, tuple(sorted({word for word in text.split(" ") if word.isalpha()})))
            for known in choices(formula.names):
                self.assertIs(formula.value(known), truth(text, known))
                self.assertIs(built(text).value(known), truth(text, known))

    def test_wrong_word(self):
        wrong = {"": 0, " ": 0, " x": 0, "x ": 1, "x  ": 1, "x y": 1, "x & y": 1, "& x": 2, "&": 1, "~": 1, "& & x y": 4,
                 "&  x y": 1, "& x  y": 2, "& x y ": 3, "& x y z": 3, "~ x y": 2, "1 1": 1, "10": 0, "01": 0, "2": 0,
                 "& x 2": 2, "(x)": 0, "X": 0, "& x Y": 2, "abcde": 0, "~x": 0, "& x ~y": 2, "x\n": 0, "\n": 0, "x\ny": 0,
                 "& x\ny": 1, "| x &": 3, "^ x & y": 4, "& x ! y": 2, "~ ~ ~": 3, "0 ": 1, "-": 0, "& == x": 1,
                 "& xyzzy": 1, "& x y & x": 3, "- - x": 0}
        for text, at in wrong.items():
            self.check_error(InvalidText, {"at": at}, Formula.read, text)
        for word in RESERVED:
            self.check_error(InvalidText, {"at": 0}, Formula.read, word)
            self.check_error(InvalidText, {"at": 2}, Formula.read, "& x " + word)


class ValueTest(Checks, unittest.TestCase):
    def test_value(self):
        for text in some_texts(2, 200):
            formula = Formula.read(text)
            for known in choices(["a", "b", "c", "d", "e"]):
                self.assertIs(formula.value(known), truth(text, known), text)

    def test_value_without_a_name(self):
        formula = Formula.read("& c | b ~ a")
        self.check_error(NoName, {"name": "a"}, formula.value, {})
        self.check_error(NoName, {"name": "a"}, formula.value, {"b": True, "c": False, "d": True})
        self.check_error(NoName, {"name": "b"}, formula.value, {"a": True})
        self.check_error(NoName, {"name": "c"}, formula.value, {"a": True, "b": True})
        self.check_error(NoName, {"name": "x"}, Formula.read("| 1 x").value, {"y": True})
        self.check_error(NoName, {"name": "x"}, Formula.read("& x ~ x").value, {})

    def test_under(self):
        for text in some_texts(3, 60):
            formula = Formula.read(text)
            for known in choices(["a", "b", "c", "d"]):
                for left in itertools.product([False, True], repeat=4):
                    part = {name: known[name] for name, stays in zip("abcd", left) if stays}
                    found = {truth(text, {**rest, **part}) for rest in choices(["a", "b", "c", "d"])}
                    expected = found.pop() if len(found) == 1 else None
                    self.assertIs(formula.under({**part, "z": True}), expected, (text, part))

    def test_under_what_only_looks_open(self):
        self.assertIs(Formula.read("| x ~ x").under({}), True)
        self.assertIs(Formula.read("& x ~ x").under({}), False)
        self.assertIs(Formula.read("^ x x").under({"y": True}), False)
        self.assertIs(Formula.read("& x y").under({"y": False}), False)
        self.assertIs(Formula.read("| x y").under({"y": True}), True)
        self.assertIs(Formula.read("| x y").under({"y": False}), None)

    def test_needs_and_depends(self):
        for text in some_texts(4, 150):
            formula = Formula.read(text)
            needs = []
            for name in ["a", "b", "c", "d"]:
                rows = list(choices(["a", "b", "c", "d"]))
                if any(truth(text, {**row, name: True}) != truth(text, {**row, name: False}) for row in rows):
                    needs.append(name)
            self.assertEqual(formula.needs, tuple(needs), text)
            for name in ["a", "b", "c", "d", "e", "zz"]:
                self.assertIs(formula.depends(name), name in needs, text)

    def test_put(self):
        chance = random.Random(5)
        for text in some_texts(5, 200):
            names = chance.sample(["a", "b", "c", "d", "e"], chance.randint(0, 4))
            texts = {name: some_text(chance, ["a", "b", "c", "x"], 2) for name in names}
            formula = Formula.read(text).put({name: Formula.read(texts[name]) for name in names})
            expected = " ".join([texts.get(word, word) for word in text.split(" ")])
            self.assertIs(type(formula), Formula)
            self.assertEqual(str(formula), expected)
            self.assertEqual(formula.names, Formula.read(expected).names)
            for known in choices(["a", "b", "c", "d", "x"]):
                self.assertIs(formula.value(known), truth(expected, known))

    def test_put_all_at_once(self):
        formula = Formula.read("& x ~ y")
        swapped = formula.put({"x": Formula.of("y"), "y": Formula.of("x")})
        self.assertEqual(str(swapped), "& y ~ x")
        self.assertEqual(str(formula.put({"x": Formula.read("& x x")})), "& & x x ~ y")
        self.assertEqual(str(formula.put({})), "& x ~ y")
        self.assertEqual(str(formula.put({"z": Formula.always(True)})), "& x ~ y")
        self.assertEqual(str(formula.put({"x": Formula.always(True)})), "& 1 ~ y")
        self.assertEqual(str(Formula.of("x").put({"x": formula})), "& x ~ y")
        self.assertEqual(str(formula), "& x ~ y")

    def test_order(self):
        texts = some_texts(6, 40) + ["0", "1", "x", "& a ~ a", "| y ~ y"]
        rows = list(choices(["a", "b", "c", "d", "x", "y"]))
        for s, t in itertools.product(texts, texts):
            p, q = Formula.read(s), Formula.read(t)
            first = [truth(s, row) for row in rows]
            second = [truth(t, row) for row in rows]
            self.assertIs(p == q, first == second)
            self.assertIs(p != q, first != second)
            self.assertIs(p <= q, all(b for a, b in zip(first, second) if a))
            self.assertIs(p >= q, all(a for a, b in zip(first, second) if b))

    def test_order_of_other_names(self):
        x, y = Formula.of("x"), Formula.of("y")
        self.assertFalse(x == y or x <= y or x >= y)
        self.assertTrue(x & y <= y and x | y >= y and x & ~x <= y and x | ~x >= y)
        self.assertTrue(x & ~x == Formula.always(False) and x | ~x == y | ~y == Formula.always(True))
        self.assertTrue(x ^ y == y ^ x and ~(x & y) == ~x | ~y)

    def test_equal_to_formulas_only(self):
        for text in TEXTS:
            self.check_alone(Formula.read(text))

    def test_example(self):
        p = Formula.read("| & x y & x ~ y")
        found = p.names, p.needs, p == Formula.of("x"), p.under({"x": False}), p.under({"y": True})
        self.assertEqual(found, (("x", "y"), ("x",), True, False, None))


if __name__ == "__main__":
    unittest.main()
