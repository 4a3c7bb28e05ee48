"""Calls 7 and 8, way and need."""

import unittest

from helpers import REFUSED, gate, last, let, line, need, net, run, way

FAR = 10 ** 18
NONE = [0, 0]


class Way(unittest.TestCase):
    def test_from_the_source_down(self):
        text = (line("a", delay=1, gate=10) + line("b", delay=2, gate=10) + line("c", "b", delay=4, gate=10)
                + line("d", "a", gate=10) + line("e", "c", delay=10))
        heard = run(net(text), *[way(i) for i in range(5)])[1:]
        self.assertEqual([[0, 1, 1, 0], [0, 2, 1, 1], [0, 6, 2, 1, 2], [0, 1, 2, 0, 3], [0, 16, 3, 1, 2, 4]], heard)

    def test_the_longest(self):
        text = line("a", delay=10)
        for name, where in zip("bcdefgh", "abcdefg"):
            text += line(name, where, delay=10)
        self.assertEqual([0, 80, 8, 0, 1, 2, 3, 4, 5, 6, 7], last(net(text), way(7)))

    def test_refused(self):
        for i in (-1, 2, FAR, -FAR):
            self.assertEqual(REFUSED, last(net(line("a") + line("b", "a")), way(i)))


class Need(unittest.TestCase):
    def test_one_reach(self):
        self.assertEqual([0, 1, 7, 1], last(net(line("a")), need(0, 0, 7)))
        self.assertEqual([0, 1, 28, 1], last(net(line("a", gate=25)), need(0, 0, 7)))
        self.assertEqual([0, 1, 10, 1], last(net(line("a", soak=3)), need(0, 0, 7)))
        self.assertEqual([0, 1, 700, 1], last(net(line("a", loss=99)), need(0, 0, 7)))
        self.assertEqual([0, 1, 70, 9], last(net(line("a", loss=10)), need(0, 0, 7)))
        self.assertEqual([0, 1, 200, 21], last(net(line("a", gate=63, soak=5)), need(0, 0, 1)))

    def test_the_loss_is_made_good_ahead_of_the_soak(self):
        self.assertEqual([0, 1, 24, 1], last(net(line("a", soak=10, loss=50)), need(0, 0, 7)))

    def test_down_a_way(self):
        # 9 leave b of 10 + 2 = 12 taken, 40 have to leave a, so it takes 80 + 1 = 81 of 100 let in.
        text = line("a", loss=50, soak=1, gate=81) + line("b", "a", loss=10, soak=2, gate=30)
        self.assertEqual([0, 1, 100, 1], last(net(text), need(1, 0, 9)))

    def test_what_is_let_in_does_not_matter(self):
        self.assertEqual([0, 1, 7, 1], last(net(line("a")), let(0, [500]), need(0, 0, 7)))

    def test_for_nothing_0(self):
        self.assertEqual([0, 1, 0, 1], last(net(line("a", soak=1000, loss=99, cap=1)), need(0, 0, 0)))
        self.assertEqual([0, 1, 0, 1], last(net(line("a", gate=0)), need(0, 59, 0)))

    def test_up_to_the_cap(self):
        self.assertEqual([0, 1, 20, 1], last(net(line("a", cap=10, gate=50)), need(0, 0, 10)))
        self.assertEqual(NONE, last(net(line("a", cap=10, gate=50)), need(0, 0, 11)))
        self.assertEqual([0, 1, 10, 1], last(net(line("a", cap=10, soak=3)), need(0, 0, 7)))
        self.assertEqual(NONE, last(net(line("a", cap=10, soak=3)), need(0, 0, 8)))
        self.assertEqual(NONE, last(net(line("a", cap=1000, soak=1000)), need(0, 0, 1)))
        self.assertEqual([0, 1, 10, 1], last(net(line("a", cap=10, loss=10)), need(0, 0, 9)))
        self.assertEqual(NONE, last(net(line("a", cap=10, loss=10)), need(0, 0, 10)))
        self.assertEqual([0, 1, 10000000, 1], last(net(line("a", gate=1)), need(0, 0, 100000)))
        self.assertEqual(NONE, last(net(line("a", gate=1)), need(0, 0, 100001)))

    def test_the_cap_of_each_reach_of_the_way(self):
        text = line("a", cap=20) + line("b", "a", cap=10, gate=40)
        self.assertEqual([0, 1, 20, 1], last(net(text), need(1, 0, 8)))
        self.assertEqual(NONE, last(net(text), need(1, 0, 9)))
        self.assertEqual([0, 1, 20, 1], last(net(text), need(0, 0, 20)))

    def test_a_gate_at_0(self):
        text = line("a", gate=0) + line("b", "a") + line("c", gate=100) + line("d", "c", gate=0)
        for i, answer in enumerate([NONE, NONE, [0, 1, 1, 1], NONE]):
            self.assertEqual(answer, last(net(text), need(i, 0, 1)), i)

    def test_gates_at_the_ticks_at_which_it_passes(self):
        text = line("a", delay=5, gate=50) + line("b", "a", delay=5, gate=50)
        start = [net(text), gate(0, 3, 25), gate(1, 6, 10), gate(1, 9, 0)]
        for t, answer in [
            (0, [0, 1, 4, 1]), (1, [0, 1, 20, 1]), (2, [0, 1, 20, 1]), (3, [0, 1, 40, 1]), (4, NONE), (59, NONE),
        ]:
            self.assertEqual(answer, last(*start, need(1, t, 1)), t)
        self.assertEqual([0, 1, 4, 1], last(*start, need(0, 59, 1)))

    def test_refused(self):
        start = [net(line("a") + line("b", "a"))]
        for wrong in (
            need(-1, 0, 0), need(2, 0, 0), need(0, -1, 0), need(0, 60, 0), need(0, 0, -1), need(0, 0, 1000001),
            need(FAR, 0, 0), need(0, FAR, 0), need(0, 0, FAR), need(-FAR, 0, 0), need(0, -FAR, 0), need(0, 0, -FAR),
        ):
            self.assertEqual(REFUSED, last(*start, wrong), wrong)
        self.assertEqual(NONE, last(*start, need(1, 59, 1000000)))
