"""How calls are handed in and answers given back."""

import io
import unittest
from contextlib import redirect_stderr, redirect_stdout

from channelnet.channels import answers
from channelnet.water import DROPS
from helpers import (
    NO_NET, account, accounts, comes, counts, ends, flow, gate, ifcap, last, let, line, most, need, net, part, print_text,
    run, set_gates, sight, spills, wants, way,
)

OTHERS = [
    let(0, [1]), gate(0, 0, 0), flow(0, 0), comes(0, 0, 1), account(0), accounts(), way(0), need(0, 0, 0), most(0, 0),
    wants([1]), set_gates([1]), part(0, 0), spills(), ifcap(0, 1), ends(), print_text(), counts(),
]
WRONG = [
    let(60, [-1]), gate(-1, 60, 101), flow(-1, 0), comes(0, 0, 0), account(60), way(-1), need(0, 0, -1), most(1, 0),
    wants([]), wants([-1]), set_gates([1, 1]), set_gates([1000001]), part(0, 60), ifcap(0, 0), ifcap(-1, 5),
]


class Calls(unittest.TestCase):
    def test_numbers_as_they_stand(self):
        text = [ord(sign) for sign in "reach a from source delay 1 loss 0 soak 0 cap 9 gate 50"]
        calls = [0, len(text)] + text + [1, 2, 2, 10, 30, 2, 0, 3, 20, 3, 0, 3, 4, 0, 3, 2, 5, 3, 6, 7, 0, 8, 0, 2, 4]
        expected = [3, 0, 1, 1, 1, 0, 1, 0, 9, 0, 6, 1, 6, 1, 0, 1, 5, 1, 5, 0, 5, 1, 6, 1,
                    9, 0, 6, 1, 0, 1, 0, 1, 24, 1, 9, 0, 11, 1, 0, 1, 0, 1, 29, 1, 4, 0, 1, 1, 0, 4, 0, 1, 8, 1]
        self.assertEqual(expected, answers(calls))

    def test_numbers_as_they_stand_of_the_calls_from_9_on(self):
        text = [ord(sign) for sign in "reach a from source delay 0 loss 0 soak 1 cap 9 gate 50\n"]
        calls = [0, len(text)] + text + [1, 0, 1, 30, 9, 0, 0, 10, 1, 8, 10, 1, 9, 11, 1, 8, 11, 1, 9, 11, 0, 12, 0, 59,
                                         13, 14, 0, 5, 15, 16, 17]
        expected = [3, 0, 1, 1, 1, 0, 3, 0, 8, 1, 4, 0, 1, 9, 1, 3, 0, 0, 0, 3, 0, 1, 1, 1, -8, 1, -1, 2, 0, 50,
                    3, 0, 6, 1, 9, 0, 4, 1, 1, 1, 10, 1, 15, 1, 3, 0, 1, 0, 2 + len(text), 0, len(text)] + text
        self.assertEqual(expected + [5, 0, 1, 1, 0, 30], answers(calls))

    def test_a_list_of_whole_numbers_is_given_back(self):
        calls = net(line("a", gate=33)) + let(0, [7]) + flow(1, 0)
        for call in OTHERS + WRONG:
            calls = calls + call
        given = answers(calls)
        self.assertIs(list, type(given))
        self.assertTrue(all([type(number) is int for number in given]))

    def test_a_list_of_one_call(self):
        self.assertEqual([2, 1, 1], answers([0, 0]))
        self.assertEqual([3, 0, 1, 1], answers(net(line("a"))))
        for call in OTHERS + WRONG:
            self.assertEqual([1, -9], answers(call), call)

    def test_120_calls(self):
        calls = [net(line("a"))] + [account(0)] * 119
        self.assertEqual([[0, 1, 1]] + [[0] + [0, 1] * 4] * 119, run(*calls))

    def test_120_calls_of_all_kinds(self):
        text = line("a", delay=2, loss=10, soak=1, cap=90, gate=60) + line("b", "a", cap=20, gate=50) + line("c", "a", gate=9)
        right = [
            net(text), let(0, [100]), gate(0, 1, 50), flow(0, 0), comes(1, 2, 1), account(0), accounts(), way(2),
            need(1, 0, 5), most(1, 0), wants([1, 2]), set_gates([1, 2]), part(0, 1), spills(), ifcap(0, 11), ends(),
            print_text(), counts(),
        ]
        # a takes 60, 53.1 leave it: 26.55 for b, 4.779 for c.
        expected = [
            [0, 3, 2], [0], [0], [0, 60, 1, 60, 1, 0, 1, 0, 1], [0, 20, 1],
            [0, 24779, 1000, 69, 10, 131, 20, 61771, 1000], [0, 24779, 1000, 69, 10, 131, 20, 61771, 1000],
            [0, 2, 2, 0, 2], [0, 1, 545, 27], [0, 20, 1], [0, 1, 13, 3], [0, 1, 1, 1, 3, 2, 3], [0, 50],
            [0, 0, 1, 131, 20, 0, 1], [0, 531, 100, 2, 1, 49, 1, 4369, 100],
            [0, 2, 1, 2], [0, len(text)] + list(text.encode("ascii")), [0, 3, 2, 1, 100],
        ]
        calls = right * 4
        for k in range(48):
            calls.append([call for call in right if call[0] not in (4, 6, 13, 14)][k % 14])
        self.assertEqual(120, len(calls))
        heard = run(*calls)
        self.assertEqual(expected * 4, heard[:72])
        self.assertEqual([0, 3, 2], heard[72])
        self.assertEqual([answer[0] for answer in heard[72:]], [0] * 48)
        back = run(*[right[k] for k in reversed(range(18))])
        self.assertEqual([NO_NET] * 17 + [[0, 3, 2]], back)

    def test_empty_lists_stand_with_their_length(self):
        self.assertEqual([[1, 1], [0, 1, 1], [0], [0, 0, 1, 0]], run(net(""), net(line("a")), let(0, []), way(0)))

    def test_no_net_at_the_beginning(self):
        for call in OTHERS:
            self.assertEqual([NO_NET, [0, 1, 1]], run(call, net(line("a"))), call)
            self.assertEqual(0, last(net(line("a")), call)[0], call)

    def test_no_net_counts_ahead_of_numbers_out_of_range(self):
        for call in WRONG:
            self.assertEqual(NO_NET, last(call), call)
            self.assertEqual([-1], last(net(line("a")), call), call)

    def test_what_was_told_without_a_net_is_not_kept(self):
        heard = run(let(0, [5]), gate(0, 0, 10), net(line("a")), accounts(), need(0, 0, 1))
        self.assertEqual([[-9], [-9], [0, 1, 1], [0] + [0, 1] * 4, [0, 1, 1, 1]], heard)

    def test_a_second_net_is_as_if_it_were_the_first(self):
        first = [net(line("x", gate=5, cap=3) + line("y", "x", delay=4)), let(0, [9] * 60), gate(0, 0, 50), gate(1, 9, 0)]
        second = [net(line("a", delay=1, gate=30) + line("b", "a", cap=2) + line("c", "a", gate=0)), let(3, [50])]
        after = sight(3) + [spills(), ifcap(1, 1), wants([1, 2]), set_gates([1, 2]), part(0, 0), most(1, 0)]
        self.assertEqual(run(*second, *after), run(*first, *second, *after)[4:])

    def test_behind_a_wrong_text_or_call_all_is_as_it_was(self):
        start = [net(line("a", delay=1, gate=30) + line("b", "a", cap=2)), let(3, [50]), gate(0, 4, 20)]
        after = sight(2) + [spills(), ifcap(1, 1), wants([1]), set_gates([1]), part(0, 4), most(1, 0)]
        seen = run(*start, *after)
        wrong = [
            net(""), net("wrong"), net(line("z") + line("z")), let(0, [1, 2, -1]), let(59, [1, 2]), gate(0, 0, 101),
            comes(0, 59, 2), most(2, 0), most(0, 60), wants([]), wants([1, 2]), wants([-1]), wants([1000001]), wants([3]),
            set_gates([]), set_gates([1, 2]), set_gates([-1]), set_gates([1000001]), set_gates([3]), part(2, 0),
            part(0, -1), ifcap(2, 1), ifcap(0, 0), ifcap(0, 100001),
        ]
        for call in wrong:
            heard = run(*start, call, *after)
            self.assertNotEqual([0, 1], heard[3][:2], call)
            self.assertEqual(seen, heard[:3] + heard[4:], call)


class HandedIn(unittest.TestCase):
    def test_stays_as_it_was(self):
        calls = []
        for call in [net(line("a", gate=30)), let(3, [5, 6])] + OTHERS + WRONG + [net("wrong"), let(3, [7]), accounts()]:
            calls.extend(call)
        before = list(calls)
        answers(calls)
        self.assertEqual(before, calls)

    def test_is_not_touched_for_a_while_either(self):
        class Watched(list):
            def touched(self, *rest):
                raise AssertionError("changed")

            append = extend = insert = pop = remove = clear = sort = reverse = touched
            __setitem__ = __delitem__ = __iadd__ = __imul__ = touched

        calls = []
        for call in [net(line("a", gate=30)), let(3, [5, 6])] + OTHERS + WRONG:
            calls.extend(call)
        self.assertEqual(answers(list(calls)), answers(Watched(calls)))

    def test_nothing_is_kept_from_one_time_to_the_next(self):
        calls = net(line("a", gate=30)) + let(0, [5]) + gate(0, 0, 10) + accounts()
        first = answers(calls)
        first.append(3)
        self.assertEqual([1, -9], answers(accounts()))
        self.assertEqual(first[:-1], answers(calls))
        answers(net(line("a", gate=100)) + [number for k in range(60) for number in gate(0, 0, 1)])
        self.assertEqual(first[:-1], answers(calls))

    def test_nothing_is_printed(self):
        out = io.StringIO()
        with redirect_stdout(out), redirect_stderr(out):
            run(net(line("a")), *OTHERS, *WRONG, net("wrong"))
        self.assertEqual("", out.getvalue())

    def test_long_lists_are_gone_through_by_loops(self):
        # 17000 numbers of calls, and answers of all 60 ticks as often as they may be asked.
        long = [net((line("a") + " " * 3000)[:3000])] * 5 + [net("\n" * 1800)]
        heard = run(*long, let(0, [1] * 60), *[comes(0, 0, 60)] * 16)
        self.assertEqual([0] + [1, 1] * 60, heard[-1])
        self.assertEqual([1, 1801], heard[5])


class Drops(unittest.TestCase):
    def test_enough_for_a_way_of_8(self):
        self.assertEqual(100 ** 16, DROPS)
