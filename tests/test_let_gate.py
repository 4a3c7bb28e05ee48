"""Calls 1 and 2, let and gate: what is let in by the tick, and a gate's part at a tick."""

import unittest

from helpers import REFUSED, account, accounts, comes, flow, gate, last, let, line, need, net, run, sight

FAR = 10 ** 18
ONE = net(line("a"))
PAIR = net(line("a", gate=60) + line("b", gate=40))


def leaving(waters):
    """The answer to comes for whole waters."""
    told = [0]
    for water in waters:
        told.extend([water, 1])
    return told


class Let(unittest.TestCase):
    def test_from_t_on(self):
        heard = run(ONE, let(5, [1, 2, 3]), comes(0, 4, 5))
        self.assertEqual([0], heard[1])
        self.assertEqual(leaving([0, 1, 2, 3, 0]), heard[2])

    def test_in_place_of_what_was(self):
        heard = run(ONE, let(0, [10, 20, 30, 40]), let(1, [5, 0]), comes(0, 0, 5))
        self.assertEqual(leaving([10, 5, 0, 40, 0]), heard[3])

    def test_an_empty_list_lets_in_nothing_and_takes_nothing_back(self):
        for t in (0, 7, 59):
            heard = run(ONE, let(7, [9]), let(t, []), comes(0, 0, 60))
            self.assertEqual([0], heard[2])
            self.assertEqual(leaving([0] * 7 + [9] + [0] * 52), heard[3])

    def test_all_60_ticks(self):
        waters = list(range(1, 61))
        heard = run(ONE, let(0, waters), comes(0, 0, 60))
        self.assertEqual([0], heard[1])
        self.assertEqual(leaving(waters), heard[2])

    def test_the_last_tick(self):
        heard = run(ONE, let(59, [3]), comes(0, 58, 2))
        self.assertEqual([0], heard[1])
        self.assertEqual(leaving([0, 3]), heard[2])

    def test_least_and_greatest_water(self):
        heard = run(ONE, let(0, [1000000, 0]), account(0), account(1))
        self.assertEqual([0], heard[1])
        self.assertEqual([0, 100000, 1, 0, 1, 900000, 1, 0, 1], heard[2])
        self.assertEqual([0, 0, 1, 0, 1, 0, 1, 0, 1], heard[3])

    def test_refused_and_nothing_changed(self):
        start = [ONE, let(0, [4, 5]), let(58, [6, 7])]
        seen = run(*start, *sight(1))[3:]
        for wrong in (
            let(-1, []), let(60, []), let(-1, [1]), let(60, [1]), let(FAR, [1]), let(-FAR, [1]),
            let(0, [-1]), let(0, [1000001]), let(0, [1, 2, -1]), let(0, [9, 9, 1000001]), let(0, [FAR]),
            let(59, [1, 2]), let(1, [1] * 60), let(30, [1] * 31), let(0, [1, -FAR, 1]),
        ):
            heard = run(*start, wrong, *sight(1))
            self.assertEqual(REFUSED, heard[3], wrong)
            self.assertEqual(seen, heard[4:], wrong)


class Parts(unittest.TestCase):
    def parts(self, *gates):
        """The parts of gate 0 at all ticks, as water of 100 shows them."""
        heard = run(net(line("a", gate=50) + line("b", gate=0)), let(0, [100] * 60), *gates, comes(0, 0, 60))
        self.assertEqual([[0]] * len(gates), heard[2:-1])
        return heard[-1][1::2]

    def test_without_settings_the_gate_of_the_net(self):
        self.assertEqual([50] * 60, self.parts())

    def test_from_t_on(self):
        self.assertEqual([50] * 20 + [30] * 40, self.parts(gate(0, 20, 30)))
        self.assertEqual([100] * 60, self.parts(gate(0, 0, 100)))
        self.assertEqual([50] * 59 + [0], self.parts(gate(0, 59, 0)))

    def test_the_one_from_the_latest_tick(self):
        self.assertEqual([50] * 10 + [1] * 20 + [2] * 30, self.parts(gate(0, 10, 1), gate(0, 30, 2)))

    def test_one_for_an_earlier_tick_told_later(self):
        self.assertEqual([50] * 10 + [1] * 20 + [2] * 30, self.parts(gate(0, 30, 2), gate(0, 10, 1)))
        self.assertEqual([3] * 30 + [2] * 30, self.parts(gate(0, 30, 2), gate(0, 10, 1), gate(0, 10, 3), gate(0, 0, 3)))

    def test_one_tick_told_twice(self):
        self.assertEqual([50] * 10 + [2] * 50, self.parts(gate(0, 10, 1), gate(0, 10, 2)))
        self.assertEqual([50] * 10 + [1] * 50, self.parts(gate(0, 10, 2), gate(0, 10, 1)))
        self.assertEqual([7] * 60, self.parts(gate(0, 0, 9), gate(0, 0, 7)))
        twice = self.parts(gate(0, 10, 1), gate(0, 30, 2), gate(0, 10, 3))
        self.assertEqual([50] * 10 + [3] * 20 + [2] * 30, twice)

    def test_of_one_gate_alone(self):
        self.assertEqual([50] * 60, self.parts(gate(1, 0, 50), gate(1, 30, 0)))

    def test_a_gate_counts_at_the_tick_at_which_water_comes_to_it(self):
        text = line("a", delay=4) + line("b", "a", gate=10)
        heard = run(net(text), let(0, [100] * 10), gate(1, 6, 20), comes(1, 0, 12), account(1), account(2))
        self.assertEqual(leaving([0] * 4 + [10, 10] + [20] * 6), heard[3])
        self.assertEqual([0, 10, 1, 0, 1, 0, 1, 90, 1], heard[4])
        self.assertEqual([0, 20, 1, 0, 1, 0, 1, 80, 1], heard[5])

    def test_a_setting_holds_behind_tick_59(self):
        text = line("a", delay=10) + line("b", "a", gate=10)
        heard = run(net(text), let(59, [100]), gate(1, 59, 80), account(59), need(1, 59, 8))
        self.assertEqual([0, 80, 1, 0, 1, 0, 1, 20, 1], heard[3])
        self.assertEqual([0, 1, 10, 1], heard[4])


class TooMuch(unittest.TestCase):
    def test_100_together_and_101(self):
        self.assertEqual([0], last(PAIR, gate(0, 0, 60)))
        self.assertEqual([-7], last(PAIR, gate(0, 0, 61)))
        self.assertEqual([-7], last(PAIR, gate(1, 59, 41)))
        self.assertEqual([[0], [0], [-7]], run(PAIR, gate(0, 5, 0), gate(1, 5, 100), gate(0, 5, 1))[1:])

    def test_only_at_one_beginning(self):
        text = line("a", gate=50) + line("b", gate=50) + line("c", "a", gate=50) + line("d", "b", gate=0)
        self.assertEqual([[0], [0], [-7]], run(net(text), gate(2, 0, 100), gate(3, 0, 100), gate(1, 0, 51))[1:])

    def test_at_a_later_tick(self):
        start = [PAIR, gate(0, 30, 10), gate(1, 30, 90)]
        self.assertEqual([[0], [0]], run(*start)[1:])
        # From tick 10 on gate 1 may take 40 till tick 29, and its setting from tick 30 on stays.
        self.assertEqual([0], last(*start, gate(1, 10, 40)))
        self.assertEqual([-7], last(*start, gate(1, 10, 41)))
        # Gate 0 has a setting of its own from tick 30 on, so what it takes from tick 20 on ends there.
        self.assertEqual([0], last(*start, gate(0, 20, 60)))
        self.assertEqual([-7], last(*start, gate(0, 31, 11)))

    def test_at_a_tick_when_another_gate_opens(self):
        start = [PAIR, gate(0, 0, 10), gate(1, 50, 90)]
        self.assertEqual([-7], last(*start, gate(0, 40, 11)))
        self.assertEqual([-7], last(*start, gate(0, 5, 20)))
        self.assertEqual([0], last(*start, gate(0, 5, 10)))
        self.assertEqual([[0], [0]], run(*start, gate(0, 50, 10), gate(0, 5, 60))[3:])

    def test_a_setting_that_a_later_one_stands_for_no_longer_counts(self):
        self.assertEqual([[0], [0], [0]], run(PAIR, gate(0, 0, 50), gate(0, 0, 20), gate(1, 0, 80))[1:])
        self.assertEqual([-7], last(PAIR, gate(0, 0, 20), gate(0, 0, 50), gate(1, 0, 51)))

    def test_nothing_changed_behind_it(self):
        start = [PAIR, let(0, [50] * 60), gate(0, 20, 30)]
        seen = run(*start, *sight(2))[3:]
        for wrong in (gate(0, 0, 61), gate(1, 0, 41), gate(1, 20, 71), gate(1, 59, 100), gate(0, 19, 100)):
            heard = run(*start, wrong, *sight(2))
            self.assertEqual([-7], heard[3])
            self.assertEqual(seen, heard[4:])


class TooMany(unittest.TestCase):
    def test_the_60th_and_the_61st(self):
        calls = [PAIR] + [gate(k % 2, k, k % 40) for k in range(60)]
        self.assertEqual([[0]] * 60 + [[-6]], run(*calls, gate(0, 0, 0))[1:])

    def test_those_of_one_gate_and_tick_count_each(self):
        calls = [ONE] + [gate(0, 0, 5)] * 61
        self.assertEqual([[0]] * 60 + [[-6]], run(*calls)[1:])

    def test_refused_ones_do_not_count(self):
        calls = [PAIR] + [gate(0, 0, 61), gate(0, 0, 101), gate(2, 0, 0)] * 5 + [gate(0, 0, 5)] * 61
        self.assertEqual([[-7], [-1], [-1]] * 5 + [[0]] * 60 + [[-6]], run(*calls)[1:])

    def test_too_much_counts_ahead_of_too_many(self):
        calls = [PAIR] + [gate(0, 0, 60)] * 60
        self.assertEqual([[-7], [-1], [-6]], run(*calls, gate(0, 0, 61), gate(0, 0, 101), gate(0, 0, 1))[61:])

    def test_nothing_changed_behind_it(self):
        start = [PAIR, let(0, [50] * 60)] + [gate(0, 9, 30)] * 60
        seen = run(*start, *sight(2))[62:]
        for more in (gate(0, 0, 1), gate(1, 9, 5), gate(0, 59, 0)):
            heard = run(*start, more, *sight(2))
            self.assertEqual([-6], heard[62])
            self.assertEqual(seen, heard[63:])


class GateRefused(unittest.TestCase):
    def test_numbers_out_of_range(self):
        start = [PAIR, let(0, [50] * 60), gate(0, 20, 30)]
        seen = run(*start, *sight(2))[3:]
        for wrong in (
            gate(-1, 0, 0), gate(2, 0, 0), gate(FAR, 0, 0), gate(-FAR, 0, 0),
            gate(0, -1, 0), gate(0, 60, 0), gate(0, FAR, 0), gate(0, -FAR, 0),
            gate(0, 0, -1), gate(0, 0, 101), gate(0, 0, FAR), gate(0, 0, -FAR),
        ):
            heard = run(*start, wrong, *sight(2))
            self.assertEqual(REFUSED, heard[3], wrong)
            self.assertEqual(seen, heard[4:], wrong)

    def test_least_and_greatest_are_taken(self):
        for right in (gate(0, 0, 0), gate(0, 0, 100), gate(0, 59, 0), gate(0, 59, 100)):
            self.assertEqual([0], last(ONE, right))
        self.assertEqual([0], last(PAIR, gate(1, 0, 0)))
