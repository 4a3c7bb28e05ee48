"""Calls 12, 13 and 14: part, spills and ifcap."""

import unittest

from helpers import (
    REFUSED, account, accounts, flow, gate, ifcap, last, let, line, net, part, run, sight, spills, wants,
)
from test_most import way_of_8
from test_wants_set import names_of

FAR = 10 ** 18


class Part(unittest.TestCase):
    def parts(self, start, i, ticks):
        return [numbers[1] for numbers in run(*start, *[part(i, t) for t in ticks])[len(start):]]

    def test_the_nets(self):
        start = [net(line("a", gate=30) + line("b", "a", gate=0) + line("c", gate=70))]
        for i, told in enumerate([30, 0, 70]):
            self.assertEqual([0, told], last(*start, part(i, 0)))
            self.assertEqual([0, told], last(*start, part(i, 59)))

    def test_from_the_set_tick_on(self):
        start = [net(line("a", gate=30)), gate(0, 10, 50)]
        self.assertEqual([30, 30, 50, 50, 50], self.parts(start, 0, [0, 9, 10, 11, 59]))

    def test_of_the_latest_the_one_told_last(self):
        start = [net(line("a", gate=30)), gate(0, 10, 50), gate(0, 5, 40), gate(0, 10, 0), gate(0, 0, 100)]
        self.assertEqual([100, 100, 40, 40, 0, 0], self.parts(start, 0, [0, 4, 5, 9, 10, 59]))

    def test_of_this_gate_alone(self):
        start = [net(line("a", gate=30) + line("b", gate=20)), gate(0, 3, 50)]
        self.assertEqual([20, 20, 20], self.parts(start, 1, [0, 3, 59]))

    def test_at_the_gates_own_tick_not_at_the_one_it_was_let_in(self):
        start = [net(line("a", delay=5) + line("b", "a", gate=30)), gate(1, 6, 9)]
        self.assertEqual([30, 30, 9], self.parts(start, 1, [0, 5, 6]))

    def test_a_refused_setting_is_none(self):
        start = [net(line("a", gate=30) + line("b", gate=70)), gate(0, 3, 31), gate(0, 60, 1), gate(0, 3, -1)]
        self.assertEqual([30, 30], self.parts(start, 0, [3, 59]))

    def test_a_new_net_has_no_settings(self):
        self.assertEqual([0, 30], last(net(line("a")), gate(0, 0, 5), net(line("a", gate=30)), part(0, 0)))
        self.assertEqual([0, 5], last(net(line("a")), gate(0, 0, 5), net("wrong"), part(0, 0)))

    def test_refused(self):
        start = [net(line("a", gate=30) + line("b", gate=20))]
        for wrong in (
            part(-1, 0), part(2, 0), part(0, -1), part(0, 60), part(FAR, 0), part(-FAR, 0), part(0, FAR), part(0, -FAR),
        ):
            self.assertEqual([REFUSED, [0, 20]], run(*start, wrong, part(1, 59))[1:], wrong)


class Spills(unittest.TestCase):
    def test_nothing_let_in(self):
        self.assertEqual([0] + [0, 1] * 3, last(net(line("a", gate=1) + line("b", gate=1) + line("c", gate=1)), spills()))

    def test_above_the_cap(self):
        self.assertEqual([0, 0, 1], last(net(line("a", cap=10)), let(0, [10]), spills()))
        self.assertEqual([0, 1, 1], last(net(line("a", cap=10)), let(0, [11]), spills()))
        self.assertEqual([0, 1, 10], last(net(line("a", cap=10, gate=1)), let(0, [1010]), spills()))

    def test_the_sum_of_all_ticks(self):
        self.assertEqual([0, 61, 1], last(net(line("a", cap=10)), let(0, [11] * 59 + [12]), spills()))
        self.assertEqual([0, 15, 2], last(net(line("a", cap=10, gate=50)), let(7, [21]), let(59, [34]), spills()))
        self.assertEqual([0, 59940000, 1], last(net(line("a", cap=1000)), let(0, [1000000] * 60), spills()))

    def test_each_reach_by_its_number(self):
        # 100: a takes 60 of 80; of these 54 leave it; c takes 7 of 27, d 20 of 27; b takes 20.
        text = (line("a", cap=60, loss=10, gate=80) + line("b", cap=30, gate=20) + line("c", "a", cap=7, gate=50)
                + line("d", "a", cap=20, gate=50) + line("e", "d", cap=19))
        self.assertEqual([0, 20, 1, 0, 1, 20, 1, 7, 1, 1, 1], last(net(text), let(0, [100]), spills()))

    def test_what_runs_off_or_is_lost_is_not_spilled(self):
        self.assertEqual([0, 0, 1], last(net(line("a", gate=1, soak=1000, loss=99)), let(0, [100]), spills()))

    def test_behind_tick_59(self):
        text = line("a", delay=10) + line("b", "a", delay=10, cap=5) + line("c", "b", cap=2)
        self.assertEqual([0, 0, 1, 4, 1, 3, 1], last(net(text), let(59, [9]), spills()))
        text = way_of_8(delay=10).replace("from g delay 10 loss 0 soak 0 cap 100000", "from g delay 10 loss 0 soak 0 cap 2")
        self.assertEqual([0] + [0, 1] * 7 + [7, 1], last(net(text), let(59, [9]), spills()))

    def test_with_the_gates_as_they_stand_when_it_passes(self):
        text = line("a", delay=5) + line("b", "a", delay=5, cap=10, gate=50) + line("c", "b", cap=1, gate=50)
        start = [net(text), let(0, [100]), gate(1, 5, 60), gate(1, 6, 0), gate(2, 10, 90), gate(2, 11, 0)]
        self.assertEqual([0, 0, 1, 50, 1, 8, 1], last(*start, spills()))
        # The same, set behind tick 59: the last setting holds there.
        start = [net(text), let(59, [100]), gate(1, 59, 60), gate(2, 58, 0), gate(2, 59, 90)]
        self.assertEqual([0, 0, 1, 50, 1, 8, 1], last(*start, spills()))

    def test_together_they_are_the_accounts(self):
        text = line("a", cap=60, loss=13, gate=80) + line("b", "a", cap=30, gate=77) + line("c", "a", cap=2, gate=23)
        heard = run(net(text), let(0, [100, 7, 90]), spills(), accounts())
        # Of 100 and of 90 a takes 60 and 52.2 leave it: b is offered 40.194, c 12.006.
        self.assertEqual([0, 32, 1, 5097, 250, 5003, 250], heard[2])
        self.assertEqual([362, 5], heard[3][5:7])

    def test_30_reaches(self):
        text = "".join([line(name, gate=3, cap=k + 1) for k, name in enumerate(names_of(30))])
        expected = [0]
        for k in range(30):
            expected += [29 - k, 1]
        self.assertEqual(expected, last(net(text), let(0, [1000]), spills()))


class Ifcap(unittest.TestCase):
    def test_as_if_it_held_so_much(self):
        start = [net(line("a", cap=10, loss=50, gate=80)), let(0, [100])]
        self.assertEqual([0, 5, 1, 5, 1, 70, 1, 20, 1], last(*start, ifcap(0, 10)))
        self.assertEqual([0, 10, 1, 10, 1, 60, 1, 20, 1], last(*start, ifcap(0, 20)))
        self.assertEqual([0, 3, 1, 3, 1, 74, 1, 20, 1], last(*start, ifcap(0, 6)))

    def test_the_least_and_the_greatest(self):
        start = [net(line("a", cap=10, loss=50)), let(0, [1000000])]
        self.assertEqual([0, 1, 2, 1, 2, 999999, 1, 0, 1], last(*start, ifcap(0, 1)))
        self.assertEqual([0, 50000, 1, 50000, 1, 900000, 1, 0, 1], last(*start, ifcap(0, 100000)))

    def test_all_that_is_let_in(self):
        start = [net(line("a", cap=10)), let(0, [7, 30]), let(59, [30])]
        self.assertEqual([0, 47, 1, 0, 1, 20, 1, 0, 1], last(*start, ifcap(0, 20)))

    def test_that_reach_alone(self):
        text = line("a", cap=10, gate=50) + line("b", cap=10, gate=50) + line("c", "b", cap=10)
        start = [net(text), let(0, [100])]
        self.assertEqual([0, 20, 1, 0, 1, 80, 1, 0, 1], last(*start, accounts()))
        self.assertEqual([0, 30, 1, 0, 1, 70, 1, 0, 1], last(*start, ifcap(0, 20)))
        self.assertEqual([0, 20, 1, 0, 1, 80, 1, 0, 1], last(*start, ifcap(1, 20)))
        self.assertEqual([0, 11, 1, 0, 1, 89, 1, 0, 1], last(*start, ifcap(1, 1)))
        self.assertEqual([0, 15, 1, 0, 1, 85, 1, 0, 1], last(*start, ifcap(2, 5)))

    def test_on_its_way_and_behind_tick_59(self):
        text = line("a", delay=10, cap=50) + line("b", "a", delay=10, gate=50) + line("c", "b", cap=3, gate=60)
        start = [net(text), let(59, [40]), gate(2, 59, 90), gate(1, 59, 50)]
        self.assertEqual([0, 3, 1, 0, 1, 15, 1, 22, 1], last(*start, accounts()))
        self.assertEqual([0, 9, 1, 0, 1, 9, 1, 22, 1], last(*start, ifcap(2, 9)))
        # b takes 4 of 20, c 3 of 3.6; 20 and 0.4 run off.
        self.assertEqual([0, 3, 1, 0, 1, 83, 5, 102, 5], last(*start, ifcap(1, 4)))
        self.assertEqual([0, 3, 1, 0, 1, 26, 1, 11, 1], last(*start, ifcap(0, 20)))

    def test_its_own_cap_gives_the_accounts(self):
        text = way_of_8(delay=3, loss=7, soak=2, cap=77, gate=95)
        start = [net(text), let(0, [100] * 60), gate(3, 20, 50), gate(3, 30, 100)]
        for i in range(8):
            self.assertEqual(last(*start, accounts()), last(*start, ifcap(i, 77)))

    def test_nothing_changes_by_asking(self):
        text = line("a", cap=10, loss=20, gate=80) + line("b", "a", cap=5, gate=50)
        start = [net(text), let(3, [500, 7]), gate(1, 4, 20)]
        asked = sight(2) + [flow(0, 3), flow(1, 3), account(3), spills(), wants([5]), wants([6])]
        seen = run(*start, *asked)[3:]
        self.assertEqual(seen, run(*start, ifcap(0, 1), ifcap(1, 100000), ifcap(0, 50), *asked)[6:])

    def test_each_asking_by_itself(self):
        start = [net(line("a", cap=10) + line("b", "a", cap=10)), let(0, [50])]
        self.assertEqual([0, 10, 1, 0, 1, 40, 1, 0, 1], last(*start, ifcap(0, 40), ifcap(1, 40)))

    def test_refused(self):
        start = [net(line("a", cap=10) + line("b", "a", cap=10)), let(0, [50])]
        right = [0, 10, 1, 0, 1, 40, 1, 0, 1]
        for wrong in (
            ifcap(-1, 5), ifcap(2, 5), ifcap(0, 0), ifcap(0, -1), ifcap(0, 100001), ifcap(FAR, 5), ifcap(-FAR, 5),
            ifcap(0, FAR), ifcap(0, -FAR),
        ):
            self.assertEqual([REFUSED, right], run(*start, wrong, accounts())[2:], wrong)
