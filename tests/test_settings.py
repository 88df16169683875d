"""Calls 3 and 4: opens and head."""

import unittest

from helper import FLOWS, PRINT, PRESSURES, WORK, each, head, last, net, opens

# Edge 0 is a pump, 1 a pipe, 2 a valve.
RING = "pump a b 1 6\npipe b c 1\nvalve c a 1\n"
FAR = 1000000000000000000


class Opens(unittest.TestCase):
    def flows(self, n, d):
        found = each(net(RING), opens(2, n, d), FLOWS)
        self.assertEqual(found[1], [0])
        return found[2]

    def test_sets_the_valves_opening(self):
        # Three resistances in a row: 1, 1 and 1 / opening.
        self.assertEqual(self.flows(1, 1), [0, 2, 1, 2, 1, 2, 1])
        self.assertEqual(self.flows(1, 2), [0, 3, 2, 3, 2, 3, 2])
        self.assertEqual(self.flows(2, 4), [0, 3, 2, 3, 2, 3, 2])
        self.assertEqual(self.flows(1000000, 1000000), [0, 2, 1, 2, 1, 2, 1])
        self.assertEqual(self.flows(1, 1000000), [0, 1, 166667, 1, 166667, 1, 166667])

    def test_opening_0(self):
        for d in (1, 7, 1000000):
            self.assertEqual(self.flows(0, d), [0, 0, 1, 0, 1, 0, 1])

    def test_the_last_opening_holds(self):
        found = each(net(RING), opens(2, 0, 1), opens(2, 1, 2), FLOWS, opens(2, 1, 1), FLOWS)
        self.assertEqual(found[3], [0, 3, 2, 3, 2, 3, 2])
        self.assertEqual(found[5], [0, 2, 1, 2, 1, 2, 1])

    def test_only_that_valve(self):
        found = each(net("pump a b 1 6\nvalve b a 1\nvalve b a 1\n"), opens(2, 0, 1), FLOWS)
        self.assertEqual(found[2], [0, 3, 1, 3, 1, 0, 1])

    def refused(self, call, number):
        found = each(net(RING), opens(2, 1, 3), head(0, 5, 2), FLOWS, PRESSURES, WORK, PRINT, call, FLOWS, PRESSURES,
                     WORK, PRINT)
        self.assertEqual(found[7], [number], call)
        self.assertEqual(found[3:7], found[8:], call)

    def test_numbers_out_of_range(self):
        for n, d in ((-1, 1), (-1, 2), (2, 1), (1000001, 1000001), (1, 1000001), (0, 1000001), (0, 0), (1, 0),
                     (0, -1), (-1, -1), (-2, -1), (1000000, 999999), (FAR, FAR), (-FAR, FAR), (0, FAR), (0, -FAR)):
            self.refused(opens(2, n, d), -1)
        for edge in (-1, -3, 3, FAR, -FAR):
            self.refused(opens(edge, 1, 2), -1)

    def test_no_valve(self):
        self.refused(opens(0, 1, 2), -3)
        self.refused(opens(1, 1, 2), -3)
        self.refused(opens(1, 1, 1), -3)

    def test_the_refusal_nearest_to_0(self):
        self.refused(opens(0, 2, 1), -1)
        self.refused(opens(1, 0, 0), -1)
        self.refused(opens(1, -1, 3), -1)

    def test_before_there_is_any_network(self):
        self.assertEqual(last(opens(0, 1, 1)), [-1])
        self.assertEqual(each(net("x"), opens(0, 1, 1)), [[-2], [-1]])


class Head(unittest.TestCase):
    def flows(self, n, d):
        found = each(net(RING), head(0, n, d), FLOWS)
        self.assertEqual(found[1], [0])
        return found[2]

    def test_sets_the_pumps_head(self):
        self.assertEqual(self.flows(0, 1), [0, 0, 1, 0, 1, 0, 1])
        self.assertEqual(self.flows(0, 1000000), [0, 0, 1, 0, 1, 0, 1])
        self.assertEqual(self.flows(3, 1), [0, 1, 1, 1, 1, 1, 1])
        self.assertEqual(self.flows(4, 2), [0, 2, 3, 2, 3, 2, 3])
        self.assertEqual(self.flows(1000000, 1), [0, 1000000, 3, 1000000, 3, 1000000, 3])
        self.assertEqual(self.flows(1, 1000000), [0, 1, 3000000, 1, 3000000, 1, 3000000])
        self.assertEqual(self.flows(1000000, 1000000), [0, 1, 3, 1, 3, 1, 3])

    def test_only_that_pump(self):
        found = each(net("pump a b 1 6\npump b a 1 2\n"), head(1, 0, 1), FLOWS, PRINT)
        self.assertEqual(found[2], [0, 3, 1, 3, 1])
        self.assertEqual(found[3], [0] + list(b"pump a b 1 6\npump b a 1 0\n"))

    def refused(self, call, number):
        found = each(net(RING), opens(2, 1, 3), head(0, 5, 2), FLOWS, PRESSURES, WORK, PRINT, call, FLOWS, PRESSURES,
                     WORK, PRINT)
        self.assertEqual(found[7], [number], call)
        self.assertEqual(found[3:7], found[8:], call)

    def test_numbers_out_of_range(self):
        for n, d in ((-1, 1), (1000001, 1), (1000001, 1000001), (1, 1000001), (1, 0), (0, 0), (1, -1), (-1, -1),
                     (FAR, 1), (-FAR, 1), (1, FAR), (1, -FAR)):
            self.refused(head(0, n, d), -1)
        for edge in (-1, -3, 3, FAR, -FAR):
            self.refused(head(edge, 1, 2), -1)

    def test_no_pump(self):
        self.refused(head(1, 1, 2), -3)
        self.refused(head(2, 1, 2), -3)
        self.refused(head(2, 0, 1), -3)

    def test_the_refusal_nearest_to_0(self):
        self.refused(head(1, 1, 0), -1)
        self.refused(head(2, -1, 1), -1)

    def test_before_there_is_any_network(self):
        self.assertEqual(last(head(0, 1, 1)), [-1])


if __name__ == "__main__":
    unittest.main()
