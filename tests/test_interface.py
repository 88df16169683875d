"""The interface: how calls and answers stand in lists, what is left as it was, and what is not done."""

import builtins
import io
import sys
import time
import unittest
from contextlib import redirect_stderr, redirect_stdout
from fractions import Fraction
from unittest import mock

from helper import FLOWS, GROUPS, HEAT, PRESSURES, PRINT, WARMTH, WORK, across, boiler, check, each, edge, energy
from helper import fractions_of, head, least, loss, more, net, opens, ratios, read, throttle, unboil
from waterloops.network import answers

LOOPS = "pump a b 2 3\npipe b c 1/2\nvalve c a 4/6\nvalve b c 3\n"
LOOP_FLOWS = [21, 16, 3, 16, 21, 16, 9, 8]
LOOP_PRESSURES = [0, 1, 75, 32, 63, 32]
ALL_CALLS = (net(LOOPS) + read(LOOPS) + read("x") + PRINT + opens(3, 1, 2) + head(0, 5, 7) + FLOWS + PRESSURES + WORK
             + check(LOOP_FLOWS, LOOP_PRESSURES) + energy([0, 1] * 4) + across(1, 2) + net("x") + opens(9, 1, 2)
             + opens(0, 1, 2) + head(1, 1, 1) + head(0, 1, 0) + check([1], []) + energy([1]) + energy([1, 1])
             + opens(3, 0, 1) + energy([0, 1, 1, 1, 0, 1, -1, 1]) + across(0, 4) + FLOWS
             + least(LOOP_FLOWS) + throttle(LOOP_FLOWS) + FLOWS + PRINT + loss(1, 1, 3, -20) + loss(3, 1, 1, 15)
             + WARMTH + boiler(1, 80) + boiler(2, 60) + WARMTH + HEAT + unboil(2) + HEAT + GROUPS + edge(0) + edge(3)
             + more(2, 1, 5) + least([1]) + least([1, 1]) + throttle([1]) + throttle([0, 1] * 4) + loss(4, 1, 1, 0)
             + boiler(3, 0) + unboil(2) + unboil(3) + edge(4) + more(0, 1, 1) + more(2, 2, 1) + unboil(1)
             + loss(1, 0, 1, 0) + loss(3, 0, 1, 0) + WARMTH + HEAT + throttle([1, 1, 1, 1, 1, 1, 0, 1]) + GROUPS
             + boiler(0, 7) + HEAT)


def refuses(*given):
    raise AssertionError("a list that was handed in is changed")


class Kept(list):
    """A list that lets nobody change it, not for a while either."""

    append = extend = insert = pop = remove = clear = sort = reverse = refuses
    __setitem__ = __delitem__ = __iadd__ = __imul__ = refuses


class Lists(unittest.TestCase):
    def test_each_answer_has_its_count_before_it(self):
        calls = net("pump a b 1 6\npipe a b 2\n") + FLOWS + opens(0, 1, 1) + WORK + opens(7, 1, 1) + PRINT
        printed = list(b"pump a b 1 6\npipe a b 2\n")
        self.assertEqual(answers(calls), [3, 0, 2, 2, 5, 0, 4, 1, -4, 1, 1, -3, 5, 0, 24, 1, 24, 1, 1, -1,
                                          1 + len(printed), 0] + printed)

    def test_calls_as_the_interface_writes_them(self):
        words = list(b"valve a b 1\n")
        self.assertEqual(answers([0, 12] + words), [3, 0, 2, 1])
        self.assertEqual(answers([1, 12] + words), [4, 0, 1, 2, 1])
        self.assertEqual(answers([1, 0]), [3, 0, 0, 1])
        self.assertEqual(answers([0, 0]), [1, -2])
        self.assertEqual(answers([2]), [1, 0])
        self.assertEqual(answers([0, 12] + words + [3, 0, 1, 2]), [3, 0, 2, 1, 1, 0])
        self.assertEqual(answers([0, 12] + words + [4, 0, 1, 2]), [3, 0, 2, 1, 1, -3])
        self.assertEqual(answers([5, 6, 7]), [1, 0, 1, 0, 5, 0, 0, 1, 0, 1])
        self.assertEqual(answers([0, 12] + words + [8, 2, 0, 1, 4, 7, 1, 7, 1]), [3, 0, 2, 1, 2, 0, 1])
        self.assertEqual(answers([0, 12] + words + [9, 2, 0, 1]), [3, 0, 2, 1, 5, 0, 0, 1, 0, 1])
        self.assertEqual(answers([0, 12] + words + [10, 0, 0]), [3, 0, 2, 1, 3, 0, 0, 1])

    def test_calls_11_to_20_as_the_interface_writes_them(self):
        words = list(b"pump a b 1 1\nvalve b a 1\n")
        made = [0, len(words)] + words
        told = [4, 3, 1, 3, 1]
        for call, answer in (([11] + told, [7, 0, 6, 1, 1, 1, 1, 1]), ([12] + told, [3, 0, 6, 1]), ([11, 0], [1, -4]),
                             ([12, 1, 5], [1, -1]), ([13, 1, 1, 2, 20], [1, 0]), ([14, 1, 50], [1, 0]),
                             ([14, 1, 50, 15, 1], [1, 0, 1, 0]), ([15, 1], [1, -4]), ([16], [1, -6]), ([17], [1, -6]),
                             ([18], [3, 0, 0, 0]), ([20, 1, 0, 1], [5, 0, 1, 2, 0, 1]),
                             ([19, 1], [14, 0, 1, 1, 0, 1, 1, 0, 1, 1, 1, 0, 1, 0, 1]),
                             ([14, 0, 5, 16, 17], [1, 0, 5, 0, 5, 1, 5, 1, 9, 0, 0, 1, 0, 1, 0, 1, 0, 1])):
            self.assertEqual(answers(made + call + [18]), [3, 0, 2, 2] + answer + [3, 0, 0, 0], call)

    def test_refused_calls_are_gone_through_to_their_ends(self):
        calls = energy([1, 1, 1]) + check([1], [1, 2, 3]) + opens(5, 5, 5) + across(5, 5) + PRINT
        self.assertEqual(answers(calls), [1, -1] * 4 + [1, 0])
        calls = least([1, 1, 1]) + throttle([1] * 39) + loss(2, 2, 2, 2) + boiler(2, 2) + unboil(2) + edge(2)
        self.assertEqual(answers(calls + more(2, 2, 2) + GROUPS), [1, -1] * 7 + [1, 0])

    def test_answers_are_whole_numbers_in_a_list(self):
        found = answers(ALL_CALLS)
        self.assertIs(type(found), list)
        self.assertEqual({type(number) for number in found}, {int})

    def test_the_list_handed_in_is_as_it_was(self):
        calls = list(ALL_CALLS)
        answers(calls)
        self.assertEqual(calls, ALL_CALLS)

    def test_the_list_handed_in_is_not_changed_for_a_while_either(self):
        self.assertEqual(answers(Kept(ALL_CALLS)), answers(list(ALL_CALLS)))

    def test_what_is_given_back_is_a_new_list(self):
        calls = [2]
        first = answers(calls)
        first.append(7)
        self.assertEqual(answers(calls), [1, 0])


class NothingElse(unittest.TestCase):
    def test_a_second_time_gives_the_same(self):
        self.assertEqual(answers(list(ALL_CALLS)), answers(list(ALL_CALLS)))

    def test_nothing_is_kept_from_one_time_to_the_next(self):
        answers(net(LOOPS) + opens(3, 0, 1))
        self.assertEqual(each(PRINT, FLOWS, PRESSURES, across(0, 0)), [[0], [0], [0], [-1]])
        self.assertEqual(each(net(LOOPS), FLOWS)[1], [0] + LOOP_FLOWS)
        answers(net(LOOPS) + loss(1, 1, 2, 20) + boiler(1, 60) + throttle([1, 1, 1, 1, 1, 1, 0, 1]))
        self.assertEqual(each(WARMTH, HEAT, GROUPS, edge(0), unboil(0)), [[0], [0], [0], [-1], [-1]])
        self.assertEqual(each(net(LOOPS), unboil(1), WARMTH, FLOWS, GROUPS)[1:],
                         [[-4], [-6], [0] + LOOP_FLOWS, [0, 0, 0, 0]])

    def test_it_prints_reads_and_imports_nothing(self):
        out = io.StringIO()
        refused = mock.Mock(side_effect=AssertionError("not to be called"))
        with redirect_stdout(out), redirect_stderr(out), mock.patch.object(builtins, "open", refused), \
                mock.patch.object(builtins, "__import__", refused), mock.patch.object(builtins, "input", refused):
            answers(list(ALL_CALLS))
        self.assertEqual(out.getvalue(), "")

    def test_long_lists_are_gone_through_by_loops(self):
        calls = [read(" " * 800)] * 20
        depth = 0
        frame = sys._getframe()
        while frame is not None:
            depth += 1
            frame = frame.f_back
        limit = sys.getrecursionlimit()
        sys.setrecursionlimit(depth + 60)
        try:
            found = answers([number for call in calls for number in call])
            answers(list(ALL_CALLS))
        finally:
            sys.setrecursionlimit(limit)
        self.assertEqual(found, [3, 0, 0, 1] * 20)


class Greatest(unittest.TestCase):
    def test_a_hundred_calls_on_the_greatest_network(self):
        ends = "ab bc cd de ef fg gh ha ac bd ce df eg fh".split()
        lines = []
        calls = []
        for number, pair in enumerate(ends):
            conductance = f"{999999 - 2 * number}/{1000000 - 3 * number}"
            if number % 5 == 0:
                lines.append(f"pump {pair[0]} {pair[1]} {conductance} {999900 - number}/{999901 + number}\n")
            else:
                lines.append(f"valve {pair[0]} {pair[1]} {conductance}\n")
                calls.append(opens(number, 990001 - number, 999983 + number))
        # At most 800 bytes: names of one letter, 14 lines.
        calls.insert(0, net("".join(lines)))
        asked = [FLOWS, PRESSURES, WORK, energy([0, 1] * 14), across(0, 13)]
        calls += (asked * 20)[:100 - len(calls)]
        start = time.perf_counter()
        found = each(*calls)
        self.assertTrue(time.perf_counter() - start < 20)
        self.assertEqual(found[0], [0, 8, 14])
        self.assertEqual(len(found), 100)
        self.assertEqual(found[-1][0], 0)
        for call, answer in zip(calls, found):
            if call == WORK:
                self.assertEqual(answer[1:3], answer[3:5])
                self.assertTrue(answer[1] > 10**18)

    def test_a_hundred_calls_with_twenty_times_throttle(self):
        """A row of valves, and one from each of its junctions to its end; flows with long numbers."""
        ways = [("abcdefg"[k], "bcdefgh"[k]) for k in range(7)] + [("bcdefg"[k], "h") for k in range(6)]
        lines = ["pump h a 999961/999959 1\n"]
        for k, (first, second) in enumerate(ways):
            lines.append(f"valve {first} {second} {999983 - 6 * k}/{999979 - 10 * k}\n")
        calls = [net("".join(lines)), boiler(0, 1000000)]
        calls += [loss(number, 900001 + number, 999999 - number, 999983 - number) for number in range(14)]
        told = []
        for number in range(20):
            row = [Fraction(8 * 10**8 - 7 * k - number, 9 * 10**8 + 10**7 * k + 3 * number) for k in range(7)]
            told.append([row[0]] + row + [row[k] - row[k + 1] for k in range(6)])
            calls += [throttle(ratios(told[-1])), FLOWS, opens(3, 1, 999983 - number), HEAT]
        calls += [HEAT] * (100 - len(calls))
        self.assertTrue(all(abs(number) <= 10**18 for call in calls for number in call))
        start = time.perf_counter()
        found = each(*calls)
        self.assertTrue(time.perf_counter() - start < 5)
        self.assertEqual(len(found), 100)
        for flows, answer in zip(told, [found[k] for k in range(100) if calls[k] == FLOWS]):
            self.assertEqual(fractions_of(answer), flows)
        for heats in [fractions_of(found[k]) for k in range(100) if calls[k] == HEAT]:
            self.assertEqual(sum(heats[:14]), sum(heats[14:]))
            self.assertTrue(sum(heats[14:]) != 0)


if __name__ == "__main__":
    unittest.main()
