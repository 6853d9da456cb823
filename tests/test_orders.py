"""Promises 24 and 25: orders."""

import itertools
import operator
import random
import unittest

from wakesafe.errors import InvalidOrder, InvalidText, Mismatch, NoName
from wakesafe.orders import Order
from tests.helper import Checks, no_names, no_strings

DEEDS = ["answer", "cut a", "fence f", "forget", "go", "hold", "load wxyz", "note", "open f", "power b", "reset a", "save a"]
NO_DEEDS = ["", "cut", "cut ", "hold ", "cut a b", "ask", "dip a", "cut any", "Hold", "hold, go", "hold < go", "fence none", "-"]


def any_order(chance, deeds):
    """Some deeds with pairs that make no circle."""
    line = chance.sample(deeds, len(deeds))
    often = chance.choice([0.0, 0.1, 0.3, 0.6, 1.0])
    pairs = [pair for pair in itertools.combinations(line, 2) if chance.random() < often]
    return Order(chance.sample(deeds, len(deeds)), chance.sample(pairs, len(pairs)))


def sequences(deeds, pairs):
    """All sequences of the deeds that keep the pairs, in ascending order."""
    return [line for line in itertools.permutations(sorted(deeds))
            if all(line.index(first) < line.index(second) for first, second in pairs)]


def always(deeds, lines):
    """The pairs that all these sequences keep."""
    return tuple(pair for pair in itertools.permutations(sorted(deeds), 2)
                 if all(line.index(pair[0]) < line.index(pair[1]) for line in lines))


class MakingTest(Checks, unittest.TestCase):
    def test_attributes(self):
        order = Order(["save a", "hold", "cut a", "fence f"], [("save a", "cut a"), ("hold", "save a")])
        self.assertEqual(order.deeds, ("cut a", "fence f", "hold", "save a"))
        self.assertEqual(order.pairs, (("hold", "cut a"), ("hold", "save a"), ("save a", "cut a")))
        self.assertEqual(order.links, (("hold", "save a"), ("save a", "cut a")))
        self.assertEqual((order.many, order.earliest), (4, ("fence f", "hold", "save a", "cut a")))
        for name in ("deeds", "pairs", "links", "many", "earliest"):
            self.assertIn(name, vars(order))

    def test_without_pairs_and_without_deeds(self):
        for order in (Order([]), Order((), ()), Order([], []), Order.read("-")):
            self.assertEqual((order.deeds, order.pairs, order.links, order.many, order.earliest), ((), (), (), 1, ()))
            self.assertEqual((len(order), str(order), order.holds([]), order.holds(["go"])), (0, "-", True, False))
        order = Order(["hold", "go"])
        self.assertEqual((order.deeds, order.pairs, order.many, order.earliest), (("go", "hold"), (), 2, ("go", "hold")))

    def test_all_deeds(self):
        for deed in DEEDS:
            self.assertEqual(Order([deed]).deeds, (deed,))
        self.assertEqual(Order(DEEDS[::-1]).deeds, tuple(DEEDS))

    def test_wrong_deeds(self):
        for value in NO_DEEDS + no_strings():
            self.check_error(InvalidOrder, {"word": "deeds"}, Order, [value])
            self.check_error(InvalidOrder, {"word": "deeds"}, Order, ["hold", value, "go"])
            self.check_error(InvalidOrder, {"word": "deeds"}, Order, ("hold", value), [("hold", "hold")])
        for value in no_names() + DEEDS:
            if value not in ([], ()):
                self.check_error(InvalidOrder, {"word": "deeds"}, Order, value)
                self.check_error(InvalidOrder, {"word": "deeds"}, Order, value, 7)
        self.check_error(InvalidOrder, {"word": "deeds"}, Order, ["hold", "go", "hold"])
        self.check_error(InvalidOrder, {"word": "deeds"}, Order, {"hold": "go"})

    def test_wrong_pairs(self):
        deeds = ["hold", "go", "cut a"]
        wrong = ["hold go", ("hold",), ("hold", "go", "cut a"), ("hold", "save a"), ("cut b", "go"), ["hold", "go"], "go",
                 ("hold", ("go",)), (("hold", "go"),), ("Hold", "go"), {"hold": "go"}]
        for value in wrong + no_names():
            self.check_error(InvalidOrder, {"word": "pairs"}, Order, deeds, [value])
            self.check_error(InvalidOrder, {"word": "pairs"}, Order, deeds, [("hold", "hold"), value])
            if value not in deeds:
                self.check_error(InvalidOrder, {"word": "pairs"}, Order, deeds, [("hold", value)])
                self.check_error(InvalidOrder, {"word": "pairs"}, Order, deeds, ((value, "go"), ("hold", "go")))
        for value in no_names() + [("hold", "go"), ["hold", "go"], {("hold", "go"): 1}]:
            if value not in ([], ()):
                self.check_error(InvalidOrder, {"word": "pairs"}, Order, deeds, value)
        self.check_error(InvalidOrder, {"word": "pairs"}, Order, [], [("hold", "go")])

    def test_circles(self):
        deeds = ["hold", "go", "cut a", "save a"]
        circles = [[("go", "go")], [("go", "hold"), ("hold", "go")], [("go", "hold"), ("hold", "cut a"), ("cut a", "go")],
                   [("save a", "go"), ("go", "hold"), ("hold", "cut a"), ("cut a", "hold")]]
        for pairs in circles:
            self.check_error(InvalidOrder, {"word": "circle"}, Order, deeds, pairs)
            self.check_error(InvalidOrder, {"word": "circle"}, Order, tuple(deeds), tuple(pairs[::-1]))
        for pairs in circles[:3]:
            self.assertEqual(len(Order(deeds, pairs[1:])), 4)

    def test_pairs_several_times(self):
        pairs = [("hold", "go"), ("cut a", "go"), ("hold", "go")]
        self.assertEqual(Order(["go", "hold", "cut a"], pairs), Order(["go", "hold", "cut a"], pairs[:2]))

    def test_all_by_chance(self):
        for seed in range(600):
            chance = random.Random(seed)
            deeds = chance.sample(DEEDS, chance.randint(0, 6))
            order = any_order(chance, deeds)
            lines = sequences(deeds, order.pairs)
            self.assertEqual((order.many, order.earliest), (len(lines), lines[0]))
            self.assertEqual(order.pairs, always(deeds, lines))
            links = tuple((a, b) for a, b in order.pairs
                          if not any((a, deed) in order.pairs and (deed, b) in order.pairs for deed in deeds))
            self.assertEqual(order.links, links)
            self.assertEqual(Order(deeds, order.links), order)
            self.assertEqual(str(Order.read(str(order))), str(order))
            for line in itertools.islice(itertools.permutations(deeds), 60):
                self.assertIs(order.holds(line), line in lines)

    def test_later_deeds_that_must_come_early(self):
        order = Order(DEEDS, [("save a", "answer"), ("reset a", "cut a")])
        self.assertEqual(order.earliest[:4], ("fence f", "forget", "go", "hold"))
        self.assertEqual(order.earliest[-4:], ("reset a", "cut a", "save a", "answer"))


class HoldsTest(unittest.TestCase):
    def setUp(self):
        self.order = Order(["hold", "save a", "cut a", "fence f"], [("hold", "save a"), ("save a", "cut a")])

    def test_sequences(self):
        for line in (["hold", "save a", "cut a", "fence f"], ("fence f", "hold", "save a", "cut a")):
            self.assertIs(self.order.holds(line), True)
        for line in (["save a", "hold", "cut a", "fence f"], ("cut a", "fence f", "hold", "save a"), ["hold", "save a", "cut a"],
                     ["hold", "save a", "cut a", "fence f", "hold"], ["hold", "save a", "cut a", "fence g"], [],
                     ["hold", "save a", "cut a", "cut a"], ["hold", "hold", "save a", "cut a", "fence f"],
                     ["hold", "save a", "cut a", "fence f", "go"]):
            self.assertIs(self.order.holds(line), False, line)
            self.assertIs(self.order.holds(tuple(line)), False, line)

    def test_any_value(self):
        for value in no_names() + DEEDS:
            self.assertIs(self.order.holds(value), False)
            self.assertIs(self.order.holds(["hold", "save a", "cut a", value]), value == "fence f")
            self.assertIs(self.order.holds(["hold", "save a", "cut a", "fence f", value]), False)
        line = {"hold": 1, "save a": 2, "cut a": 3, "fence f": 4}
        self.assertIs(self.order.holds(line), False)


class OperatorsTest(Checks, unittest.TestCase):
    def test_by_chance(self):
        for seed in range(300):
            chance = random.Random(seed)
            deeds = chance.sample(DEEDS, chance.randint(0, 5))
            p, q = any_order(chance, deeds), any_order(chance, deeds)
            first, second = sequences(deeds, p.pairs), sequences(deeds, q.pairs)
            both = [line for line in first if line in second]
            if both:
                self.assertEqual((p & q).pairs, always(deeds, both))
                self.assertIs(type(p & q), Order)
            else:
                self.check_error(InvalidOrder, {"word": "circle"}, operator.and_, p, q)
            self.assertEqual((p | q).pairs, tuple(pair for pair in p.pairs if pair in q.pairs))
            self.assertIs(p <= q, set(first) <= set(second))
            self.assertIs(p >= q, set(first) >= set(second))
            self.assertIs(p == q, first == second)
            self.assertEqual((~p).pairs, tuple(sorted((second, first) for first, second in p.pairs)))
            self.assertEqual(((~p).many, ~~p, (p | q).deeds), (p.many, p, p.deeds))

    def test_examples(self):
        p = Order(["hold", "go", "note"], [("hold", "go")])
        q = Order(["note", "go", "hold"], [("go", "note")])
        self.assertEqual(str(p & q), "go < note, hold < go")
        self.assertEqual((p & q).pairs, (("go", "note"), ("hold", "go"), ("hold", "note")))
        self.assertEqual(str(p | q), "go, hold, note")
        self.assertEqual((p & q <= p, p <= p & q, p <= p, p >= p & q, p <= q), (True, False, True, True, False))
        self.assertEqual(str(~p), "go < hold, note")
        self.assertEqual((str(p), str(q)), ("hold < go, note", "go < note, hold"))

    def test_shared_pairs_by_way_of_others(self):
        p, q = Order.read("hold < go, go < note"), Order.read("hold < answer, answer < note")
        p, q = Order(p.deeds + ("answer",), p.pairs), Order(q.deeds + ("go",), q.pairs)
        self.assertEqual((p | q).pairs, (("hold", "note"),))

    def test_mismatch(self):
        p, q = Order(["hold", "go"], [("hold", "go")]), Order(["hold", "note"])
        more = Order(["hold", "go", "note"], [("go", "hold")])
        for first, second in itertools.permutations([p, q, more, Order([])], 2):
            for sign in (operator.and_, operator.or_, operator.le, operator.ge):
                self.check_error(Mismatch, {}, sign, first, second)

    def test_wrong_operands(self):
        signs = [operator.and_, operator.or_, operator.le, operator.ge]
        self.check_operands(Order(["hold", "go"], [("hold", "go")]), signs)
        self.check_operands(Order([]), signs)

    def test_in_place(self):
        p = old = Order.read("hold < go, note")
        p &= Order.read("go < note, hold")
        self.assertEqual((str(p), str(old)), ("go < note, hold < go", "hold < go, note"))
        p |= Order.read("hold < note, go")
        self.assertEqual((str(p), str(old)), ("hold < note, go", "hold < go, note"))

    def test_equal_if_deeds_and_pairs_are(self):
        orders = [Order([]), Order(["hold"]), Order(["go"]), Order(["hold", "go"]), Order(["hold", "go"], [("hold", "go")]),
                  Order(["hold", "go"], [("go", "hold")]), Order.read("hold < go, go < note"),
                  Order.read("hold < go, hold < note")]
        for (m, p), (n, q) in itertools.product(enumerate(orders), enumerate(orders)):
            self.assertIs(p == q, m == n)
            self.assertIs(p != q, m != n)
        self.assertEqual(Order.read("hold < go, go < note"), Order.read("hold < note, go < note, hold < go"))
        for order in orders:
            self.check_alone(order)
            self.check_not_iterable(order)
        self.assertFalse(orders[0] == ())


class WithoutTest(Checks, unittest.TestCase):
    def test_without(self):
        order = Order.read("hold < save a, save a < cut a, fence f")
        less = order.without("save a")
        self.assertEqual((str(less), less.pairs), ("hold < cut a, fence f", (("hold", "cut a"),)))
        self.assertEqual(str(order.without("hold")), "save a < cut a, fence f")
        self.assertEqual(str(order.without("fence f")), "hold < save a, save a < cut a")
        self.assertEqual((len(order), len(less)), (4, 3))
        self.assertEqual(str(Order(["hold"]).without("hold")), "-")

    def test_no_name(self):
        order = Order.read("hold < save a")
        for value in no_names() + ["cut a", "save b", "save", "a", "go "]:
            if value != "hold":
                self.check_error(NoName, {"name": value}, order.without, value)
            self.check_error(NoName, {"name": value}, Order([]).without, value)


class TextTest(Checks, unittest.TestCase):
    def test_str(self):
        self.assertEqual(str(Order(["note", "hold", "cut a"])), "cut a, hold, note")
        self.assertEqual(str(Order(["note", "hold", "cut a"], [("note", "hold")])), "note < hold, cut a")
        self.assertEqual(str(Order(["go", "hold", "note"], [("note", "go"), ("note", "hold")])), "note < go, note < hold")
        self.assertEqual(str(Order(["go", "hold", "note"], [("note", "go"), ("go", "hold"), ("note", "hold")])),
                         "go < hold, note < go")

    def test_read(self):
        for text in ["hold", "cut a, hold, note", "note < hold, cut a", "go < hold, note < go", "-"]:
            order = Order.read(text)
            self.assertIs(type(order), Order)
            self.assertEqual(str(order), text)
        order = Order.read("cut a, note < hold, hold, cut a, note < cut a, note < hold, hold < cut a")
        self.assertEqual(str(order), "hold < cut a, note < hold")
        self.assertEqual(order.deeds, ("cut a", "hold", "note"))
        self.assertEqual(Order.read("save a < cut a, hold < save a"), Order.read("hold < cut a, hold < save a, save a < cut a"))

    def test_wrong_items(self):
        wrong = ["", " ", "Hold", "cut", "hold go", "hold <", "< hold", "hold < ", " < hold", "hold<go", "hold  < go", "hold <  go",
                 "hold < go < note", "hold > go", " hold", "hold ", "hold < ask", "x < hold", "hold,go", "a", "hold\n", "<", " < ",
                 "dip a", "cut any", "-"]
        for item in wrong:
            if item != "-":
                self.check_error(InvalidText, {"at": 0}, Order.read, item)
            self.check_error(InvalidText, {"at": 0}, Order.read, item + ", hold")
            self.check_error(InvalidText, {"at": 1}, Order.read, "hold, " + item)
            self.check_error(InvalidText, {"at": 2}, Order.read, "go < go, hold < go, " + item + ", " + item)

    def test_circles(self):
        for text in ["hold < hold", "hold < go, go < hold", "go, note < go, hold < note, go < hold"]:
            self.check_error(InvalidOrder, {"word": "circle"}, Order.read, text)


if __name__ == "__main__":
    unittest.main()
