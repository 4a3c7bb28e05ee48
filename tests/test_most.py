"""Call 9, most: the most that can leave a reach of what is let in at a tick."""

import unittest
from fractions import Fraction

from helpers import REFUSED, gate, last, let, line, most, need, net, run, sight

FAR = 10 ** 18
NOTHING = [0, 0, 1]


def way_of_8(**told):
    text = line("a", **told)
    for name, where in zip("bcdefgh", "abcdefg"):
        text += line(name, where, **told)
    return text


class Most(unittest.TestCase):
    def test_one_reach(self):
        self.assertEqual([0, 100000, 1], last(net(line("a")), most(0, 0)))
        self.assertEqual([0, 1, 1], last(net(line("a", cap=1)), most(0, 0)))
        self.assertEqual([0, 7, 1], last(net(line("a", cap=10, soak=3)), most(0, 0)))
        self.assertEqual([0, 9, 2], last(net(line("a", cap=6, loss=25)), most(0, 0)))
        self.assertEqual([0, 1, 100], last(net(line("a", cap=1, loss=99)), most(0, 0)))

    def test_the_soak_is_lost_ahead_of_the_loss(self):
        self.assertEqual([0, 45, 1], last(net(line("a", cap=100, soak=10, loss=50)), most(0, 0)))

    def test_a_gate_above_0_at_the_source_does_not_matter(self):
        for part in (1, 2, 50, 99, 100):
            self.assertEqual([0, 97, 1], last(net(line("a", cap=97, gate=part)), most(0, 0)), part)

    def test_a_way(self):
        # 100 taken, 80 leave a; half of it offered to b, which takes 30 and loses a tenth of it.
        text = line("a", cap=100, loss=20, gate=5) + line("b", "a", cap=30, loss=10, gate=50)
        self.assertEqual([0, 27, 1], last(net(text), most(1, 0)))
        self.assertEqual([0, 80, 1], last(net(text), most(0, 0)))

    def test_a_little_reach_below_a_great_one(self):
        text = line("a", cap=1000, soak=900, loss=90, gate=1) + line("b", "a", cap=1, gate=5) + line("c", "a", cap=1, gate=20)
        heard = run(net(text), *[most(i, 0) for i in range(3)])[1:]
        self.assertEqual([[0, 10, 1], [0, 1, 2], [0, 1, 1]], heard)

    def test_a_gate_below_the_source_matters(self):
        for part in (1, 33, 100):
            text = line("a", cap=10) + line("b", "a", gate=part)
            expected = Fraction(10 * part, 100)
            self.assertEqual([0, expected.numerator, expected.denominator], last(net(text), most(1, 0)), part)

    def test_what_others_take_does_not_matter(self):
        text = line("a", cap=10, gate=40) + line("b", cap=20, gate=60) + line("c", "b", gate=30) + line("d", "b", gate=5)
        heard = run(net(text), *[most(i, 0) for i in range(4)])[1:]
        self.assertEqual([[0, 10, 1], [0, 20, 1], [0, 6, 1], [0, 1, 1]], heard)

    def test_what_is_let_in_does_not_matter(self):
        self.assertEqual([0, 100000, 1], last(net(line("a", gate=1)), let(0, [1]), most(0, 0)))

    def test_a_gate_at_0(self):
        text = line("a", gate=0) + line("b", "a") + line("c") + line("d", "c", gate=0) + line("e", "d")
        heard = run(net(text), *[most(i, 0) for i in range(5)])[1:]
        self.assertEqual([NOTHING, NOTHING, [0, 100000, 1], NOTHING, NOTHING], heard)

    def test_all_is_soaked(self):
        self.assertEqual(NOTHING, last(net(line("a", cap=999, soak=1000)), most(0, 0)))
        self.assertEqual(NOTHING, last(net(line("a", cap=1000, soak=1000)), most(0, 0)))
        self.assertEqual([0, 1, 1], last(net(line("a", cap=1001, soak=1000)), most(0, 0)))
        self.assertEqual(NOTHING, last(net(line("a", cap=20) + line("b", "a", gate=50, soak=10)), most(1, 0)))
        self.assertEqual([0, 1, 2], last(net(line("a", cap=21) + line("b", "a", gate=50, soak=10)), most(1, 0)))

    def test_gates_at_the_ticks_at_which_it_passes(self):
        text = line("a", delay=5, cap=100, gate=50) + line("b", "a", delay=5, gate=50)
        start = [net(text), gate(0, 3, 0), gate(0, 4, 25), gate(1, 6, 10), gate(1, 9, 0), gate(1, 10, 2)]
        for t, water in [(0, 50), (1, 10), (2, 10), (3, 0), (4, 0), (5, 2), (59, 2)]:
            self.assertEqual([0, water, 1], last(*start, most(1, t)), t)
        self.assertEqual([0, 100, 1], last(*start, most(0, 59)))

    def test_settings_told_for_the_last_tick_hold_behind_it(self):
        text = line("a", delay=10, cap=100) + line("b", "a", gate=50)
        self.assertEqual([0, 7, 1], last(net(text), gate(1, 59, 7), most(1, 59)))
        self.assertEqual([0, 50, 1], last(net(text), gate(1, 59, 7), most(1, 48)))
        self.assertEqual([0, 7, 1], last(net(text), gate(1, 59, 7), most(1, 49)))

    def test_a_way_of_8(self):
        water = Fraction(99, 100) * 100000
        for _ in range(7):
            water = water * Fraction(99, 100) * Fraction(99, 100)
        text = way_of_8(loss=1, gate=99, delay=10)
        self.assertEqual([0, water.numerator, water.denominator], last(net(text), most(7, 59)))
        self.assertEqual(100 ** 15, water.denominator * 100000)

    def test_it_can_be_got_and_no_more(self):
        text = line("a", cap=1000, loss=10, gate=7) + line("b", "a", cap=500, loss=20, soak=1, gate=50)
        self.assertEqual([0, 1796, 5], last(net(text), most(1, 0)))
        self.assertEqual([0, 1], last(net(text), need(1, 0, 359))[:2])
        self.assertEqual([0, 0], last(net(text), need(1, 0, 360)))

    def test_nothing_changes_by_asking(self):
        start = [net(way_of_8(loss=3, gate=90)), let(3, [500, 7]), gate(2, 4, 20)]
        seen = run(*start, *sight(8))[3:]
        self.assertEqual(seen, run(*start, most(7, 3), most(0, 0), most(8, 0), *sight(8))[6:])

    def test_refused(self):
        start = [net(line("a", cap=9) + line("b", "a"))]
        for wrong in (
            most(-1, 0), most(2, 0), most(0, -1), most(0, 60), most(FAR, 0), most(-FAR, 0), most(0, FAR), most(0, -FAR),
        ):
            self.assertEqual([REFUSED, [0, 9, 1]], run(*start, wrong, most(1, 59))[1:], wrong)
