"""How calls are handed in and answers given back."""

import io
import unittest
from contextlib import redirect_stderr, redirect_stdout

from channelnet.channels import answers
from channelnet.water import DROPS
from helpers import NO_NET, account, accounts, comes, flow, gate, last, let, line, need, net, run, way

OTHERS = [let(0, [1]), gate(0, 0, 0), flow(0, 0), comes(0, 0, 1), account(0), accounts(), way(0), need(0, 0, 0)]
WRONG = [let(60, [-1]), gate(-1, 60, 101), flow(-1, 0), comes(0, 0, 0), account(60), way(-1), need(0, 0, -1)]


class Calls(unittest.TestCase):
    def test_numbers_as_they_stand(self):
        text = [ord(sign) for sign in "reach a from source delay 1 loss 0 soak 0 cap 9 gate 50"]
        calls = [0, len(text)] + text + [1, 2, 2, 10, 30, 2, 0, 3, 20, 3, 0, 3, 4, 0, 3, 2, 5, 3, 6, 7, 0, 8, 0, 2, 4]
        expected = [3, 0, 1, 1, 1, 0, 1, 0, 9, 0, 6, 1, 6, 1, 0, 1, 5, 1, 5, 0, 5, 1, 6, 1,
                    9, 0, 6, 1, 0, 1, 0, 1, 24, 1, 9, 0, 11, 1, 0, 1, 0, 1, 29, 1, 4, 0, 1, 1, 0, 4, 0, 1, 8, 1]
        self.assertEqual(expected, answers(calls))

    def test_a_list_of_whole_numbers_is_given_back(self):
        given = answers(net(line("a", gate=33)) + let(0, [7]) + flow(0, 0) + account(0) + flow(1, 0) + way(0))
        self.assertIs(list, type(given))
        self.assertTrue(all([type(number) is int for number in given]))

    def test_a_list_of_one_call(self):
        self.assertEqual([1, -9], answers(accounts()))
        self.assertEqual([2, 1, 1], answers([0, 0]))

    def test_120_calls(self):
        calls = [net(line("a"))] + [account(0)] * 119
        self.assertEqual([[0, 1, 1]] + [[0] + [0, 1] * 4] * 119, run(*calls))

    def test_empty_lists_stand_with_their_length(self):
        self.assertEqual([[1, 1], [0, 1, 1], [0], [0, 0, 1, 0]], run(net(""), net(line("a")), let(0, []), way(0)))

    def test_no_net_at_the_beginning(self):
        for call in OTHERS:
            self.assertEqual([NO_NET, [0, 1, 1]], run(call, net(line("a"))), call)
            self.assertEqual(0, last(net(line("a")), call)[0], call)

    def test_no_net_counts_ahead_of_numbers_out_of_range(self):
        for call in WRONG:
            self.assertEqual(NO_NET, last(call), call)
            self.assertEqual([-1], last(net(line("a")), call), call)

    def test_what_was_told_without_a_net_is_not_kept(self):
        heard = run(let(0, [5]), gate(0, 0, 10), net(line("a")), accounts(), need(0, 0, 1))
        self.assertEqual([[-9], [-9], [0, 1, 1], [0] + [0, 1] * 4, [0, 1, 1, 1]], heard)


class HandedIn(unittest.TestCase):
    def test_stays_as_it_was(self):
        calls = []
        for call in [net(line("a", gate=30)), let(3, [5, 6])] + OTHERS + WRONG + [net("wrong"), let(3, [7]), accounts()]:
            calls.extend(call)
        before = list(calls)
        answers(calls)
        self.assertEqual(before, calls)

    def test_is_not_touched_for_a_while_either(self):
        class Watched(list):
            def touched(self, *rest):
                raise AssertionError("changed")

            append = extend = insert = pop = remove = clear = sort = reverse = touched
            __setitem__ = __delitem__ = __iadd__ = __imul__ = touched

        calls = []
        for call in [net(line("a", gate=30)), let(3, [5, 6])] + OTHERS + WRONG:
            calls.extend(call)
        self.assertEqual(answers(list(calls)), answers(Watched(calls)))

    def test_nothing_is_kept_from_one_time_to_the_next(self):
        calls = net(line("a", gate=30)) + let(0, [5]) + gate(0, 0, 10) + accounts()
        first = answers(calls)
        first.append(3)
        self.assertEqual([1, -9], answers(accounts()))
        self.assertEqual(first[:-1], answers(calls))
        answers(net(line("a", gate=100)) + [number for k in range(60) for number in gate(0, 0, 1)])
        self.assertEqual(first[:-1], answers(calls))

    def test_nothing_is_printed(self):
        out = io.StringIO()
        with redirect_stdout(out), redirect_stderr(out):
            run(net(line("a")), *OTHERS, *WRONG, net("wrong"))
        self.assertEqual("", out.getvalue())

    def test_long_lists_are_gone_through_by_loops(self):
        # 17000 numbers of calls, and answers of all 60 ticks as often as they may be asked.
        long = [net((line("a") + " " * 3000)[:3000])] * 5 + [net("\n" * 1800)]
        heard = run(*long, let(0, [1] * 60), *[comes(0, 0, 60)] * 16)
        self.assertEqual([0] + [1, 1] * 60, heard[-1])
        self.assertEqual([1, 1801], heard[5])


class Drops(unittest.TestCase):
    def test_enough_for_a_way_of_8(self):
        self.assertEqual(100 ** 16, DROPS)
