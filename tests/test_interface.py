"""The interface: how calls and answers stand in lists, what is left as it was, and what is not done."""

import builtins
import io
import sys
import time
import unittest
from contextlib import redirect_stderr, redirect_stdout
from unittest import mock

from helper import FLOWS, PRESSURES, PRINT, WORK, across, check, each, energy, head, net, opens, read
from waterloops.network import answers

LOOPS = "pump a b 2 3\npipe b c 1/2\nvalve c a 4/6\nvalve b c 3\n"
LOOP_FLOWS = [21, 16, 3, 16, 21, 16, 9, 8]
LOOP_PRESSURES = [0, 1, 75, 32, 63, 32]
ALL_CALLS = (net(LOOPS) + read(LOOPS) + read("x") + PRINT + opens(3, 1, 2) + head(0, 5, 7) + FLOWS + PRESSURES + WORK
             + check(LOOP_FLOWS, LOOP_PRESSURES) + energy([0, 1] * 4) + across(1, 2) + net("x") + opens(9, 1, 2)
             + opens(0, 1, 2) + head(1, 1, 1) + head(0, 1, 0) + check([1], []) + energy([1]) + energy([1, 1])
             + opens(3, 0, 1) + energy([0, 1, 1, 1, 0, 1, -1, 1]) + across(0, 4) + FLOWS)


def refuses(*given):
    raise AssertionError("a list that was handed in is changed")


class Kept(list):
    """A list that lets nobody change it, not for a while either."""

    append = extend = insert = pop = remove = clear = sort = reverse = refuses
    __setitem__ = __delitem__ = __iadd__ = __imul__ = refuses


class Lists(unittest.TestCase):
    def test_each_answer_has_its_count_before_it(self):
        calls = net("pump a b 1 6\npipe a b 2\n") + FLOWS + opens(0, 1, 1) + WORK + opens(7, 1, 1) + PRINT
        printed = list(b"pump a b 1 6\npipe a b 2\n")
        self.assertEqual(answers(calls), [3, 0, 2, 2, 5, 0, 4, 1, -4, 1, 1, -3, 5, 0, 24, 1, 24, 1, 1, -1,
                                          1 + len(printed), 0] + printed)

    def test_calls_as_the_interface_writes_them(self):
        words = list(b"valve a b 1\n")
        self.assertEqual(answers([0, 12] + words), [3, 0, 2, 1])
        self.assertEqual(answers([1, 12] + words), [4, 0, 1, 2, 1])
        self.assertEqual(answers([1, 0]), [3, 0, 0, 1])
        self.assertEqual(answers([0, 0]), [1, -2])
        self.assertEqual(answers([2]), [1, 0])
        self.assertEqual(answers([0, 12] + words + [3, 0, 1, 2]), [3, 0, 2, 1, 1, 0])
        self.assertEqual(answers([0, 12] + words + [4, 0, 1, 2]), [3, 0, 2, 1, 1, -3])
        self.assertEqual(answers([5, 6, 7]), [1, 0, 1, 0, 5, 0, 0, 1, 0, 1])
        self.assertEqual(answers([0, 12] + words + [8, 2, 0, 1, 4, 7, 1, 7, 1]), [3, 0, 2, 1, 2, 0, 1])
        self.assertEqual(answers([0, 12] + words + [9, 2, 0, 1]), [3, 0, 2, 1, 5, 0, 0, 1, 0, 1])
        self.assertEqual(answers([0, 12] + words + [10, 0, 0]), [3, 0, 2, 1, 3, 0, 0, 1])

    def test_refused_calls_are_gone_through_to_their_ends(self):
        calls = energy([1, 1, 1]) + check([1], [1, 2, 3]) + opens(5, 5, 5) + across(5, 5) + PRINT
        self.assertEqual(answers(calls), [1, -1] * 4 + [1, 0])

    def test_answers_are_whole_numbers_in_a_list(self):
        found = answers(ALL_CALLS)
        self.assertIs(type(found), list)
        self.assertEqual({type(number) for number in found}, {int})

    def test_the_list_handed_in_is_as_it_was(self):
        calls = list(ALL_CALLS)
        answers(calls)
        self.assertEqual(calls, ALL_CALLS)

    def test_the_list_handed_in_is_not_changed_for_a_while_either(self):
        self.assertEqual(answers(Kept(ALL_CALLS)), answers(list(ALL_CALLS)))

    def test_what_is_given_back_is_a_new_list(self):
        calls = [2]
        first = answers(calls)
        first.append(7)
        self.assertEqual(answers(calls), [1, 0])


class NothingElse(unittest.TestCase):
    def test_a_second_time_gives_the_same(self):
        self.assertEqual(answers(list(ALL_CALLS)), answers(list(ALL_CALLS)))

    def test_nothing_is_kept_from_one_time_to_the_next(self):
        answers(net(LOOPS) + opens(3, 0, 1))
        self.assertEqual(each(PRINT, FLOWS, PRESSURES, across(0, 0)), [[0], [0], [0], [-1]])
        self.assertEqual(each(net(LOOPS), FLOWS)[1], [0] + LOOP_FLOWS)

    def test_it_prints_reads_and_imports_nothing(self):
        out = io.StringIO()
        refused = mock.Mock(side_effect=AssertionError("not to be called"))
        with redirect_stdout(out), redirect_stderr(out), mock.patch.object(builtins, "open", refused), \
                mock.patch.object(builtins, "__import__", refused), mock.patch.object(builtins, "input", refused):
            answers(list(ALL_CALLS))
        self.assertEqual(out.getvalue(), "")

    def test_long_lists_are_gone_through_by_loops(self):
        calls = [read(" " * 800)] * 20
        depth = 0
        frame = sys._getframe()
        while frame is not None:
            depth += 1
            frame = frame.f_back
        limit = sys.getrecursionlimit()
        sys.setrecursionlimit(depth + 60)
        try:
            found = answers([number for call in calls for number in call])
            answers(list(ALL_CALLS))
        finally:
            sys.setrecursionlimit(limit)
        self.assertEqual(found, [3, 0, 0, 1] * 20)


class Greatest(unittest.TestCase):
    def test_a_hundred_calls_on_the_greatest_network(self):
        ends = "ab bc cd de ef fg gh ha ac bd ce df eg fh".split()
        lines = []
        calls = []
        for number, pair in enumerate(ends):
            conductance = f"{999999 - 2 * number}/{1000000 - 3 * number}"
            if number % 5 == 0:
                lines.append(f"pump {pair[0]} {pair[1]} {conductance} {999900 - number}/{999901 + number}\n")
            else:
                lines.append(f"valve {pair[0]} {pair[1]} {conductance}\n")
                calls.append(opens(number, 990001 - number, 999983 + number))
        # At most 800 bytes: names of one letter, 14 lines.
        calls.insert(0, net("".join(lines)))
        asked = [FLOWS, PRESSURES, WORK, energy([0, 1] * 14), across(0, 13)]
        calls += (asked * 20)[:100 - len(calls)]
        start = time.perf_counter()
        found = each(*calls)
        self.assertTrue(time.perf_counter() - start < 20)
        self.assertEqual(found[0], [0, 8, 14])
        self.assertEqual(len(found), 100)
        self.assertEqual(found[-1][0], 0)
        for call, answer in zip(calls, found):
            if call == WORK:
                self.assertEqual(answer[1:3], answer[3:5])
                self.assertTrue(answer[1] > 10**18)


if __name__ == "__main__":
    unittest.main()
