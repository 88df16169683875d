"""Calls 8 and 9: check and energy."""

import unittest
from fractions import Fraction

from helper import FLOWS, PRESSURES, PRINT, WORK, check, each, energy, fractions_of, head, last, net, opens, ratios
from helper import some_circulation, some_networks

LOOPS = "pump a b 2 3\npipe b c 1/2\nvalve c a 4/6\nvalve b c 3\n"
LOOP_FLOWS = [21, 16, 3, 16, 21, 16, 9, 8]
LOOP_PRESSURES = [0, 1, 75, 32, 63, 32]
FAR = 1000000000000000000
NO_FRACTIONS = ([1], [1, 1, 1], [1, 0], [0, 0], [1, -1], [1, -FAR], [1, 1, 0, 0], [1, 0, 1, 1], [1, 1, 2, -2, 1, 1])


class Check(unittest.TestCase):
    def checked(self, flows, pressures, *calls):
        return last(net(LOOPS), *calls, check(flows, pressures))

    def test_they_belong_together(self):
        self.assertEqual(self.checked(LOOP_FLOWS, LOOP_PRESSURES), [0, 1])

    def test_fractions_not_in_lowest_terms(self):
        flows = [21 * 5, 16 * 5, 300, 1600, 42, 32, -9 * -7, 8 * 7]
        self.assertEqual(self.checked(flows, [0, 17, 150, 64, 63 * 10**15, 32 * 10**15]), [0, 1])

    def test_pressures_need_not_be_0_anywhere(self):
        self.assertEqual(self.checked(LOOP_FLOWS, [5, 1, 75 + 160, 32, 63 + 160, 32]), [0, 1])
        self.assertEqual(self.checked(LOOP_FLOWS, [-1, 3, 193, 96, 157, 96]), [0, 1])
        self.assertEqual(self.checked(LOOP_FLOWS, [5, 1, 75 + 160, 32, 63, 32]), [0, 0])

    def test_each_group_has_its_own_pressures(self):
        words = "pump a b 1 6\npipe b a 1\nvalve b c 1\npump c d 1 2\npipe d c 1\n"
        flows = [3, 1, 3, 1, 0, 1, 1, 1, 1, 1]
        found = each(net(words), check(flows, [0, 1, 3, 1, 0, 1, 1, 1]), opens(2, 0, 1),
                     check(flows, [0, 1, 3, 1, 0, 1, 1, 1]), check(flows, [7, 1, 10, 1, -9, 2, -7, 2]),
                     check(flows, [7, 1, 10, 1, -9, 2, -8, 2]))
        self.assertEqual(found[1], [0, 0])
        self.assertEqual(found[3:], [[0, 1], [0, 1], [0, 0]])

    def test_flows_that_circulate_but_are_not_pressed_so(self):
        self.assertEqual(self.checked([21, 16, 1, 16, 21, 16, 20, 16], LOOP_PRESSURES), [0, 0])
        self.assertEqual(self.checked([0, 1] * 4, LOOP_PRESSURES), [0, 0])
        self.assertEqual(self.checked([-21, 16, -3, 16, -21, 16, -9, 8], LOOP_PRESSURES), [0, 0])

    def test_flows_that_are_pressed_so_but_do_not_circulate(self):
        words = "pipe a b 2\n"
        found = each(net(words), check([2, 1], [1, 1, 0, 1]), check([0, 1], [1, 1, 1, 1]), check([0, 1], [1, 1, 0, 1]))
        self.assertEqual(found[1:], [[0, 0], [0, 1], [0, 0]])

    def test_each_number_counts(self):
        for place in range(4):
            flows = list(LOOP_FLOWS)
            flows[2 * place] += 1
            self.assertEqual(self.checked(flows, LOOP_PRESSURES), [0, 0], flows)
        for place in range(3):
            pressures = list(LOOP_PRESSURES)
            pressures[2 * place] -= 1
            self.assertEqual(self.checked(LOOP_FLOWS, pressures), [0, 0], pressures)

    def test_openings_and_heads_count(self):
        self.assertEqual(self.checked(LOOP_FLOWS, LOOP_PRESSURES, opens(3, 1, 2)), [0, 0])
        self.assertEqual(self.checked(LOOP_FLOWS, LOOP_PRESSURES, head(0, 2, 1)), [0, 0])
        self.assertEqual(self.checked([7, 16, 1, 16, 7, 16, 3, 8], [0, 1, 25, 32, 21, 32], head(0, 1, 1)), [0, 1])

    def test_through_a_shut_edge_nothing_flows(self):
        closed = opens(3, 0, 1)
        pressures = [0, 1, 21, 8, 9, 8]
        self.assertEqual(self.checked([3, 4, 3, 4, 3, 4, 0, 1], pressures, closed), [0, 1])
        self.assertEqual(self.checked([3, 4, 1, 4, 3, 4, 2, 4], pressures, closed), [0, 0])

    def test_too_few_or_too_many(self):
        self.assertEqual(self.checked([], []), [0, 0])
        self.assertEqual(self.checked(LOOP_FLOWS, []), [0, 0])
        self.assertEqual(self.checked([], LOOP_PRESSURES), [0, 0])
        self.assertEqual(self.checked(LOOP_FLOWS[:-2], LOOP_PRESSURES), [0, 0])
        self.assertEqual(self.checked(LOOP_FLOWS + [0, 1], LOOP_PRESSURES), [0, 0])
        self.assertEqual(self.checked(LOOP_FLOWS, LOOP_PRESSURES[:-2]), [0, 0])
        self.assertEqual(self.checked(LOOP_FLOWS, LOOP_PRESSURES + [0, 1]), [0, 0])
        self.assertEqual(self.checked([0, 1] * 20, [0, 1] * 20), [0, 0])
        self.assertEqual(self.checked([FAR, FAR] * 20, [-FAR, FAR] * 20), [0, 0])

    def test_rows_that_are_not_of_fractions(self):
        for wrong in NO_FRACTIONS:
            self.assertEqual(self.checked(wrong, LOOP_PRESSURES), [-1], wrong)
            self.assertEqual(self.checked(LOOP_FLOWS, wrong), [-1], wrong)
            self.assertEqual(self.checked(wrong, wrong), [-1], wrong)
            self.assertEqual(last(check(wrong, [])), [-1], wrong)
            self.assertEqual(last(check([], wrong)), [-1], wrong)
        self.assertEqual(self.checked([21, 16, 3, 16, 21, 16, 9, 0], LOOP_PRESSURES), [-1])
        self.assertEqual(self.checked([-21, -16] + LOOP_FLOWS[2:], LOOP_PRESSURES), [-1])

    def test_before_there_is_any_network(self):
        self.assertEqual(last(check([], [])), [0, 1])
        self.assertEqual(last(check([0, 1], [])), [0, 0])
        self.assertEqual(last(check([], [0, 1])), [0, 0])

    def test_changes_nothing(self):
        found = each(net(LOOPS), opens(3, 1, 7), FLOWS, PRESSURES, PRINT, check(LOOP_FLOWS, LOOP_PRESSURES),
                     check([1], []), FLOWS, PRESSURES, PRINT)
        self.assertEqual(found[2:5], found[7:])


class Energy(unittest.TestCase):
    def energy(self, flows, *calls):
        return last(net(LOOPS), *calls, energy(flows))

    def test_of_the_flows_themselves(self):
        self.assertEqual(self.energy(LOOP_FLOWS), [0, -63, 16, -63, 16])

    def test_of_others(self):
        self.assertEqual(self.energy([0, 1] * 4), [0, 0, 1, -63, 16])
        # 1/2 + 1 * 2 + 3/2 less twice 3.
        self.assertEqual(self.energy([1, 1, 1, 1, 1, 1, 0, 1]), [0, -2, 1, -63, 16])
        self.assertEqual(self.energy([-1, 1, -1, 1, -1, 1, 0, 1]), [0, 10, 1, -63, 16])
        self.assertEqual(self.energy([0, 1, 1, 1, 0, 1, -1, 1]), [0, 7, 3, -63, 16])

    def test_fractions_not_in_lowest_terms(self):
        self.assertEqual(self.energy([6, 6, 2, 2, FAR, FAR, 0, 99]), [0, -2, 1, -63, 16])
        self.assertEqual(self.energy([2, 4, 5, 10, 1, 2, 0, 3]), [0, -2, 1, -63, 16])

    def test_greatest_numbers(self):
        flows = [FAR, 1, FAR, 1, FAR, 1, 0, 1]
        found = fractions_of(self.energy(flows))
        self.assertEqual(found, [4 * Fraction(FAR) ** 2 - 6 * FAR, Fraction(-63, 16)])
        flows = [1, FAR, 1, FAR, 1, FAR, 0, FAR]
        self.assertEqual(fractions_of(self.energy(flows))[0], 4 / Fraction(FAR) ** 2 - Fraction(6, FAR))

    def test_rows_that_are_not_of_fractions(self):
        for wrong in NO_FRACTIONS + (LOOP_FLOWS[:-1], LOOP_FLOWS[:-1] + [0], [1, -1] * 4):
            self.assertEqual(self.energy(wrong), [-1], wrong)
            self.assertEqual(last(energy(wrong)), [-1], wrong)

    def test_as_many_as_edges(self):
        for wrong in ([], LOOP_FLOWS[:-2], LOOP_FLOWS + [0, 1], [0, 1], [0, 1] * 20):
            self.assertEqual(self.energy(wrong), [-4], wrong)
        self.assertEqual(last(energy([0, 1])), [-4])

    def test_flows_that_do_not_circulate(self):
        for wrong in ([1, 1, 0, 1, 0, 1, 0, 1], [1, 1] * 4, [1, 1, 1, 1, 1, 1, 1, FAR], [0, 1, 0, 1, 1, 1, 0, 1],
                      [21, 16, 3, 16, 21, 16, 10, 8]):
            self.assertEqual(self.energy(wrong), [-4], wrong)

    def test_through_a_shut_edge(self):
        closed = opens(3, 0, 1)
        self.assertEqual(self.energy([0, 1, 1, 1, 0, 1, -1, 1], closed), [-6])
        self.assertEqual(self.energy([1, 1, 0, 1, 1, 1, 1, 1], closed), [-6])
        self.assertEqual(self.energy([1, 1, 1, 1, 1, 1, 0, 1], closed), [0, -2, 1, -9, 4])
        self.assertEqual(self.energy([1, 1, 1, 1, 1, 1, 0, 1], closed, opens(3, 1, 1)), [0, -2, 1, -63, 16])

    def test_the_refusal_nearest_to_0(self):
        closed = opens(3, 0, 1)
        self.assertEqual(self.energy([0, 1, 0, 1, 0, 1, 1, 1], closed), [-4])
        self.assertEqual(self.energy([0, 1, 0, 1, 0, 1, 1, 0], closed), [-1])
        self.assertEqual(self.energy([0, 1, 1, 1, 0, 1, -1, 0], closed), [-1])
        self.assertEqual(self.energy([1, 1, 1, 1, 1], closed), [-1])

    def test_before_there_is_any_network(self):
        self.assertEqual(last(energy([])), [0, 0, 1, 0, 1])

    def test_changes_nothing_refused_or_not(self):
        for flows in (LOOP_FLOWS, [1], [1, 1], [0, 1, 1, 1, 0, 1, -1, 1]):
            found = each(net(LOOPS), opens(3, 0, 7), FLOWS, PRESSURES, WORK, energy(flows), FLOWS, PRESSURES, WORK)
            self.assertEqual(found[2:5], found[6:])

    def test_no_flows_that_circulate_have_less(self):
        others = 0
        for calls, model, source in some_networks(200, 7):
            flows = some_circulation(model, source)
            own, least = fractions_of(last(*calls, energy(ratios(flows))))
            self.assertEqual([own, least], [model.energy(flows), model.energy(model.flows())], calls)
            if flows == model.flows():
                self.assertEqual(own, least, calls)
            else:
                others += 1
                self.assertTrue(own > least, calls)
        self.assertTrue(others > 80, others)

    def test_a_little_beside_the_flows(self):
        for little in (Fraction(1, 10**6), Fraction(-1, 10**6)):
            flows = [Fraction(21, 16), Fraction(3, 16) + little, Fraction(21, 16), Fraction(9, 8) - little]
            own, least = fractions_of(self.energy(ratios(flows)))
            self.assertTrue(own > least)


if __name__ == "__main__":
    unittest.main()
