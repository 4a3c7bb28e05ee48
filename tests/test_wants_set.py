"""Calls 10 and 11, wants and set: gates as best can be."""

import unittest
from fractions import Fraction

from helpers import REFUSED, gate, last, let, line, net, run, set_gates, sight, wants
from test_most import way_of_8

FAR = 10 ** 18
CANNOT = [-8]
TREE = (
    # Told in another order than they lie in the tree:
    #   0 a: 2 c (4 e), 5 f;  1 b: 3 d;  the ends are 3, 4 and 5.
    ("a", "source"), ("b", "source"), ("c", "a"), ("d", "b"), ("e", "c"), ("f", "a"),
)


def tree(**told):
    """The tree's text; told gives a reach other numbers by its name."""
    return "".join([line(name, where, **{"gate": 5, **told.get(name, {})}) for name, where in TREE])


def names_of(many):
    letters = "abcdefghijklmnopqrstuvwxyz"
    return [letters[k % 26] * (1 + k // 26) for k in range(many)]


class Wants(unittest.TestCase):
    def test_one_reach(self):
        self.assertEqual([0, 1, 7, 1], last(net(line("a")), wants([7])))
        self.assertEqual([0, 1, 10, 1], last(net(line("a", soak=3)), wants([7])))
        self.assertEqual([0, 1, 70, 9], last(net(line("a", loss=10)), wants([7])))
        self.assertEqual([0, 1, 24, 1], last(net(line("a", loss=50, soak=10)), wants([7])))
        self.assertEqual([0, 1, 700, 1], last(net(line("a", loss=99)), wants([7])))

    def test_nothing_needs_nothing(self):
        self.assertEqual([0, 1, 0, 1], last(net(line("a", loss=50, soak=10, cap=1)), wants([0])))
        self.assertEqual([0, 1, 0, 1], last(net(tree(a=dict(soak=1000, cap=1), e=dict(soak=9))), wants([0, 0, 0])))

    def test_gates_as_they_are_set_do_not_matter(self):
        text = line("a", gate=0) + line("b", "a", gate=0)
        self.assertEqual([0, 1, 7, 1], last(net(text), wants([7])))
        self.assertEqual([0, 1, 7, 1], last(net(text), gate(0, 0, 3), gate(1, 0, 100), let(0, [5]), wants([7])))

    def test_down_a_way(self):
        # 9 leave b of 10 + 2 = 12; 12 leave a of 24 + 1.
        text = line("a", loss=50, soak=1) + line("b", "a", loss=10, soak=2)
        self.assertEqual([0, 1, 25, 1], last(net(text), wants([9])))

    def test_the_ends_by_their_numbers(self):
        told = dict(d=dict(soak=100), e=dict(soak=10), f=dict(soak=1), b=dict(loss=50))
        # d takes 101, so b 202; e and f 12 and 4.
        self.assertEqual([0, 1, 218, 1], last(net(tree(**told)), wants([1, 2, 3])))
        self.assertEqual([0, 1, 210, 1], last(net(tree(**told)), wants([3, 0, 3])))
        self.assertEqual([0, 1, 4, 1], last(net(tree(**told)), wants([0, 0, 3])))

    def test_a_reach_below_which_nothing_is_asked_soaks_nothing(self):
        told = dict(a=dict(soak=100), b=dict(soak=1000), c=dict(soak=7), d=dict(soak=1000))
        self.assertEqual([0, 1, 105, 1], last(net(tree(**told)), wants([0, 0, 5])))
        self.assertEqual([0, 1, 112, 1], last(net(tree(**told)), wants([0, 5, 0])))

    def test_the_soak_of_a_reach_is_made_good_once(self):
        text = line("a", soak=10) + line("b", "a", gate=1) + line("c", "a", gate=1)
        self.assertEqual([0, 1, 17, 1], last(net(text), wants([3, 4])))

    def test_fractions_are_summed(self):
        text = line("a", loss=30, gate=1) + line("b", loss=10, gate=1)
        # 10/7 + 10/9
        self.assertEqual([0, 1, 160, 63], last(net(text), wants([1, 1])))
        text = line("a", loss=70, gate=1) + line("b", loss=85, gate=1)
        # 10/3 + 20/3
        self.assertEqual([0, 1, 10, 1], last(net(text), wants([1, 1])))

    def test_a_source_has_no_cap(self):
        text = "".join([line(name, gate=1) for name in names_of(30)])
        self.assertEqual([0, 1, 3000000, 1], last(net(text), wants([100000] * 30)))
        self.assertEqual([0, 0, 29], last(net(text), wants([100000] * 29 + [100001])))

    def test_just_the_cap_and_a_little_more(self):
        self.assertEqual([0, 1, 10, 1], last(net(line("a", cap=10)), wants([10])))
        self.assertEqual([0, 0, 0], last(net(line("a", cap=10)), wants([11])))
        self.assertEqual([0, 1, 103, 1], last(net(line("a", loss=50, soak=3, cap=103)), wants([50])))
        self.assertEqual([0, 0, 0], last(net(line("a", loss=50, soak=3, cap=102)), wants([50])))
        # For 98 that's a 99th less than 99; for 1 a 99th more than 1.
        self.assertEqual([0, 1, 9800, 99], last(net(line("a", loss=1, cap=99)), wants([98])))
        self.assertEqual([0, 1, 100, 1], last(net(line("a", loss=1, cap=100)), wants([99])))
        self.assertEqual([0, 0, 0], last(net(line("a", loss=1, cap=99)), wants([99])))
        self.assertEqual([0, 0, 0], last(net(line("a", loss=1, cap=1)), wants([1])))
        self.assertEqual([0, 1, 100, 99], last(net(line("a", loss=1, cap=2)), wants([1])))

    def test_a_reach_that_is_just_full_by_fractions(self):
        # 100/99 and 98 * 100/99 are 100 together.
        both = line("b", "a", loss=1, gate=1) + line("c", "a", loss=1, gate=1)
        self.assertEqual([0, 1, 100, 1], last(net(line("a", cap=100) + both), wants([1, 98])))
        self.assertEqual([0, 0, 0], last(net(line("a", cap=99) + both), wants([1, 98])))
        self.assertEqual([0, 0, 0], last(net(line("a", cap=100) + both), wants([2, 98])))

    def test_all_is_soaked(self):
        text = line("a", soak=1000, cap=1000)
        self.assertEqual([0, 0, 0], last(net(text), wants([1])))
        self.assertEqual([0, 1, 0, 1], last(net(text), wants([0])))
        self.assertEqual([0, 1, 1001, 1], last(net(line("a", soak=1000, cap=1001)), wants([1])))

    def test_one_that_cannot_is_told(self):
        for k, name in enumerate("abcdef"):
            text = tree(**{name: dict(cap=1)})
            self.assertEqual([0, 0, k], last(net(text), wants([2, 2, 2])), name)
            self.assertEqual(CANNOT, last(net(text), set_gates([2, 2, 2])), name)

    def test_the_first_that_cannot(self):
        # Ahead of each all that is below it, by their numbers: e c f a d b.
        order = "ecfadb"
        for first in range(6):
            for second in range(first + 1, 6):
                text = tree(**{order[first]: dict(cap=1), order[second]: dict(cap=1)})
                told = "abcdef".index(order[first])
                self.assertEqual([0, 0, told], last(net(text), wants([2, 2, 2])), (first, second))
        self.assertEqual([0, 0, 4], last(net(tree(**{name: dict(cap=1) for name in "abcdef"})), wants([2, 2, 2])))

    def test_a_greater_number_below_a_lesser_one(self):
        text = line("a", cap=1, gate=5) + line("b", cap=1, gate=5) + line("c", "b", cap=1) + line("d", "a", cap=1)
        self.assertEqual([0, 0, 3], last(net(text), wants([2, 2])))
        self.assertEqual([0, 0, 2], last(net(text), wants([2, 0])))
        self.assertEqual([0, 0, 3], last(net(text), wants([0, 2])))
        self.assertEqual([0, 1, 2, 1], last(net(text), wants([1, 1])))

    def test_a_way_of_8(self):
        self.assertEqual([0, 1, 8 * 1000 + 1, 1], last(net(way_of_8(soak=1000)), wants([1])))
        self.assertEqual([0, 1, 5 * 100 ** 8, 99 ** 8], last(net(way_of_8(loss=1)), wants([5])))
        self.assertEqual([0, 0, 4], last(net(way_of_8(loss=97, cap=40000)), wants([1])))
        self.assertEqual([0, 0, 7], last(net(way_of_8()), wants([1000000])))

    def test_30_reaches(self):
        names = names_of(30)
        text = line("a", soak=1, loss=50) + "".join([line(name, "a", soak=2, gate=3) for name in names[1:]])
        asks = list(range(29))
        # 0 asks for nothing; the others for their numbers and 2 each.
        self.assertEqual([0, 1, 2 * (sum(asks) + 28 * 2) + 1, 1], last(net(text), wants(asks)))
        text = line("a")
        for k in range(1, 30):
            text += line(names[k], names[k - 1] if k < 7 else names[k % 7], gate=1)
        self.assertEqual([0, 1, 23, 1], last(net(text), wants([1] * 23)))
        self.assertEqual(REFUSED, last(net(text), wants([1] * 30)))

    def test_the_greatest_fractions(self):
        losses = [1, 3, 7, 11, 17, 21, 27, 29, 33, 39, 41, 47, 53, 57, 59, 63, 69, 71, 77, 81, 83, 87, 89, 93, 97]
        text = "".join([line(name, loss=loss, gate=1) for name, loss in zip(names_of(25), losses)])
        whole = sum([Fraction(100, 100 - loss) for loss in losses])
        self.assertEqual([0, 1, whole.numerator, whole.denominator], last(net(text), wants([1] * 25)))
        self.assertGreater(whole.denominator, 10 ** 18)


class SetGates(unittest.TestCase):
    def test_one_reach(self):
        self.assertEqual([0, 1, 1], last(net(line("a", gate=3)), set_gates([7])))
        self.assertEqual([0, 0, 1], last(net(line("a", gate=3)), set_gates([0])))

    def test_parts_of_the_whole(self):
        text = line("a", gate=5) + line("b", gate=5) + line("c", gate=5)
        self.assertEqual([0, 1, 6, 1, 3, 1, 2], last(net(text), set_gates([1, 2, 3])))
        self.assertEqual([0, 0, 1, 2, 5, 3, 5], last(net(text), set_gates([0, 2, 3])))
        self.assertEqual([0, 0, 1, 0, 1, 1, 1], last(net(text), set_gates([0, 0, 3])))

    def test_by_what_is_offered_not_by_what_is_asked(self):
        text = line("a", soak=8, gate=5) + line("b", loss=50, gate=5)
        self.assertEqual([0, 9, 13, 4, 13], last(net(text), set_gates([1, 2])))
        text = line("a", loss=30, gate=1) + line("b", loss=10, gate=1)
        self.assertEqual([0, 9, 16, 7, 16], last(net(text), set_gates([1, 1])))

    def test_each_reach_by_its_number(self):
        told = dict(d=dict(soak=100), e=dict(soak=10), f=dict(soak=1), b=dict(loss=50))
        # At the source a 16 and b 202; at a's end c 12 and f 4; d and e alone.
        expected = [0, 8, 109, 101, 109, 3, 4, 1, 1, 1, 1, 1, 4]
        self.assertEqual(expected, last(net(tree(**told)), set_gates([1, 2, 3])))

    def test_0_where_nothing_is_to_be_offered(self):
        self.assertEqual([0] + [0, 1] * 6, last(net(tree()), set_gates([0, 0, 0])))
        self.assertEqual([0, 1, 1, 0, 1, 0, 1, 0, 1, 0, 1, 1, 1], last(net(tree()), set_gates([0, 0, 4])))
        self.assertEqual([0, 0, 1, 1, 1, 0, 1, 1, 1, 0, 1, 0, 1], last(net(tree()), set_gates([4, 0, 0])))

    def test_gates_as_they_are_set_do_not_matter(self):
        text = line("a", gate=0) + line("b", gate=0)
        self.assertEqual([0, 1, 4, 3, 4], last(net(text), gate(0, 0, 90), set_gates([1, 3])))

    def test_cannot(self):
        text = line("a", cap=10, gate=5) + line("b", "a", gate=5)
        self.assertEqual([0, 1, 1, 1, 1], last(net(text), set_gates([10])))
        self.assertEqual([CANNOT, [0, 1, 1, 1, 1]], run(net(text), set_gates([11]), set_gates([10]))[1:])
        self.assertEqual(CANNOT, last(net(line("a", loss=1, cap=99)), set_gates([99])))
        self.assertEqual([0, 1, 1], last(net(line("a", loss=1, cap=100)), set_gates([99])))

    def test_30_reaches(self):
        text = "".join([line(name, gate=1) for name in names_of(30)])
        self.assertEqual([0] + [1, 30] * 30, last(net(text), set_gates([1000] * 30)))


class Both(unittest.TestCase):
    def test_a_list_not_as_told(self):
        start = [net(tree())]
        for call in (wants, set_gates):
            right = last(*start, call([1, 2, 3]))
            self.assertEqual(0, right[0])
            for asks in (
                [], [1], [1, 2], [1, 2, 3, 4], [1] * 6, [1] * 30, [-1, 2, 3], [1, -1, 3], [1, 2, -1],
                [1000001, 2, 3], [1, 1000001, 3], [1, 2, 1000001], [FAR, 0, 0], [0, 0, -FAR],
            ):
                self.assertEqual([REFUSED, right], run(*start, call(asks), call([1, 2, 3]))[1:], asks)

    def test_the_greatest_and_the_least_asked(self):
        self.assertEqual([0, 0, 0], last(net(line("a")), wants([1000000])))
        self.assertEqual(CANNOT, last(net(line("a")), set_gates([1000000])))
        self.assertEqual([0, 1, 0, 1], last(net(line("a")), wants([0])))

    def test_a_list_not_as_told_counts_ahead_of_what_cannot(self):
        for asks in ([1000000, 1000001], [1000000, -1], [1000000], [1000000] * 3):
            text = line("a", gate=5) + line("b", gate=5)
            self.assertEqual([REFUSED, REFUSED], run(net(text), set_gates(asks), wants(asks))[1:], asks)

    def test_nothing_is_set(self):
        start = [net(tree(a=dict(loss=20), e=dict(soak=1))), let(3, [500, 7]), gate(2, 4, 20), gate(0, 3, 95)]
        seen = run(*start, *sight(6))[4:]
        for asks in ([1, 2, 3], [0, 0, 0], [1000000] * 3, [1], [-1, 0, 0]):
            heard = run(*start, set_gates(asks), wants(asks), set_gates(asks), *sight(6))
            self.assertEqual(seen, heard[7:], asks)
