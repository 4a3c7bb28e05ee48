"""Calls 5 and 6, account and accounts: what became of the water."""

import unittest

from helpers import REFUSED, account, accounts, gate, last, let, line, net, run

FAR = 10 ** 18


class Account(unittest.TestCase):
    def test_nothing_let_in(self):
        self.assertEqual([0] + [0, 1] * 4, last(net(line("a")), account(0)))

    def test_each_by_itself(self):
        self.assertEqual([0, 9, 1, 0, 1, 0, 1, 0, 1], last(net(line("a")), let(0, [9]), account(0)))
        self.assertEqual([0, 0, 1, 9, 1, 0, 1, 0, 1], last(net(line("a", soak=10)), let(0, [9]), account(0)))
        self.assertEqual([0, 9, 10, 81, 10, 0, 1, 0, 1], last(net(line("a", loss=90)), let(0, [9]), account(0)))
        self.assertEqual([0, 2, 1, 0, 1, 7, 1, 0, 1], last(net(line("a", cap=2)), let(0, [9]), account(0)))
        self.assertEqual([0, 0, 1, 0, 1, 0, 1, 9, 1], last(net(line("a", gate=0)), let(0, [9]), account(0)))

    def test_all_together_down_a_tree(self):
        # 1000: 800 to a, 200 run off. a takes 700, spills 100, loses 20 and a tenth of 680: 612 leave it.
        # b is offered 306 and takes 300, 6 are spilled, all else arrives; c is offered 153, half of it is lost;
        # a quarter of 612, 153, runs off.
        text = (line("a", delay=3, loss=10, soak=20, cap=700, gate=80) + line("b", "a", cap=300, gate=50)
                + line("c", "a", delay=9, loss=50, gate=25))
        heard = last(net(text), let(4, [1000]), account(4))
        self.assertEqual([0, 753, 2, 329, 2, 106, 1, 353, 1], heard)

    def test_only_what_leaves_an_end_arrives(self):
        text = line("a", loss=50) + line("b", "a", gate=40)
        self.assertEqual([0, 20, 1, 50, 1, 0, 1, 30, 1], last(net(text), let(0, [100]), account(0)))

    def test_of_that_tick_alone(self):
        start = [net(line("a", delay=1)), let(0, [5, 6, 7])]
        self.assertEqual([0, 6, 1, 0, 1, 0, 1, 0, 1], last(*start, account(1)))
        self.assertEqual([0] + [0, 1] * 4, last(*start, account(3)))

    def test_behind_tick_59(self):
        text = line("a", delay=10, loss=50, gate=90)
        for name, where in zip("bcdefgh", "abcdefg"):
            text += line(name, where, delay=10)
        self.assertEqual([0, 45, 1, 45, 1, 0, 1, 10, 1], last(net(text), let(59, [100]), account(59)))

    def test_with_the_gates_as_they_stand_when_it_passes(self):
        text = line("a", delay=5) + line("b", "a", delay=5, gate=50) + line("c", "b", gate=50)
        start = [net(text), let(0, [100]), gate(0, 1, 0), gate(1, 5, 60), gate(1, 6, 0), gate(2, 10, 10), gate(2, 11, 0)]
        self.assertEqual([0, 6, 1, 0, 1, 0, 1, 94, 1], last(*start, account(0)))

    def test_refused(self):
        for wrong in (account(-1), account(60), account(FAR), account(-FAR)):
            self.assertEqual([REFUSED, [0] + [5, 1] + [0, 1] * 3], run(net(line("a")), let(0, [5]), wrong, account(0))[2:])
        self.assertEqual(0, last(net(line("a")), account(59))[0])


class Accounts(unittest.TestCase):
    def test_nothing_let_in(self):
        self.assertEqual([0] + [0, 1] * 4, last(net(line("a")), accounts()))

    def test_the_sum_of_all_ticks(self):
        text = line("a", loss=50, soak=1, cap=10, gate=75)
        # 8: 6 taken, 3.5 lost. 20: 15 offered, 10 taken, 5.5 lost, 5 spilled.
        heard = run(net(text), let(0, [8]), let(59, [20]), account(0), account(59), accounts())[3:]
        self.assertEqual([0, 5, 2, 7, 2, 0, 1, 2, 1], heard[0])
        self.assertEqual([0, 9, 2, 11, 2, 5, 1, 5, 1], heard[1])
        self.assertEqual([0, 7, 1, 9, 1, 5, 1, 7, 1], heard[2])

    def test_the_cap_and_the_soak_are_by_the_tick(self):
        text = line("a", soak=2, cap=10)
        self.assertEqual([0, 480, 1, 120, 1, 60, 1, 0, 1], last(net(text), let(0, [11] * 60), accounts()))

    def test_water_still_on_its_way_at_tick_59(self):
        text = line("a", delay=10) + line("b", "a", delay=10, gate=30)
        self.assertEqual([0, 18, 1, 0, 1, 0, 1, 42, 1], last(net(text), let(0, [1] * 60), accounts()))

    def test_the_greatest_waters(self):
        heard = last(net(line("a", gate=99)), let(0, [1000000] * 60), accounts())
        self.assertEqual([0, 6000000, 1, 0, 1, 53400000, 1, 600000, 1], heard)

    def test_a_way_of_8_keeps_all_its_digits(self):
        text = line("a", loss=1, gate=99)
        for name, where in zip("bcdefgh", "abcdefg"):
            text += line(name, where, loss=1, gate=99)
        heard = last(net(text), let(0, [1, 0, 2]), accounts())
        self.assertEqual([3 * 99 ** 16, 100 ** 16], heard[1:3])
