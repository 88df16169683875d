"""Calls 5 to 7 and 10: flows, pressures, work, across."""

import unittest
from fractions import Fraction

from helper import FLOWS, PRESSURES, WORK, across, check, each, fractions_of, head, last, net, opens, ratios
from helper import some_networks

# Two loops: the pump drives both, the middle way is shared.
LOOPS = "pump a b 2 3\npipe b c 1/2\nvalve c a 4/6\nvalve b c 3\n"
FAR = 1000000000000000000


class Flows(unittest.TestCase):
    def test_before_there_is_any_network(self):
        self.assertEqual(last(FLOWS), [0])

    def test_a_loop(self):
        self.assertEqual(last(net("pump a b 1 6\npipe b c 2\npipe c a 1/2\n"), FLOWS), [0, 12, 7, 12, 7, 12, 7])

    def test_two_loops(self):
        self.assertEqual(last(net(LOOPS), FLOWS), [0, 21, 16, 3, 16, 21, 16, 9, 8])

    def test_flows_below_0(self):
        self.assertEqual(last(net("pump a b 1 6\npipe a b 2\n"), FLOWS), [0, 4, 1, -4, 1])
        self.assertEqual(last(net("pipe a b 3\npump b a 1 1/2\n"), FLOWS), [0, 3, 8, 3, 8])
        # The stronger pump presses water backwards through the other.
        self.assertEqual(last(net("pump a b 1 5\npump a b 1 2\n"), FLOWS), [0, 3, 2, -3, 2])

    def test_nothing_flows_where_nothing_presses_or_no_loop_is(self):
        self.assertEqual(last(net("pipe a b 1\npipe b a 1\n"), FLOWS), [0, 0, 1, 0, 1])
        self.assertEqual(last(net("pump a b 1 5\npipe b c 1\n"), FLOWS), [0, 0, 1, 0, 1])
        self.assertEqual(last(net("pump a b 1 5\npump a b 7 5\n"), FLOWS), [0, 0, 1, 0, 1])

    def test_closed_valves(self):
        found = each(net(LOOPS), opens(3, 0, 1), FLOWS, opens(2, 0, 1), FLOWS, opens(3, 1, 1), FLOWS, opens(2, 1, 1),
                     FLOWS)
        self.assertEqual(found[2], [0, 3, 4, 3, 4, 3, 4, 0, 1])
        self.assertEqual(found[4], [0, 0, 1, 0, 1, 0, 1, 0, 1])
        self.assertEqual(found[6], [0, 0, 1, 0, 1, 0, 1, 0, 1])
        self.assertEqual(found[8], [0, 21, 16, 3, 16, 21, 16, 9, 8])

    def test_several_groups(self):
        words = "pump a b 1 6\npipe c d 1\npipe a b 1\npump d c 1 4\n"
        self.assertEqual(last(net(words), FLOWS), [0, 3, 1, 2, 1, -3, 1, 2, 1])

    def test_greatest_numbers(self):
        words = "pump a b 1000000 1000000\npipe a b 1/1000000\n"
        flow = Fraction(1000000) / (Fraction(1, 1000000) + 1000000)
        self.assertEqual(fractions_of(last(net(words), FLOWS)), [flow, -flow])

    def test_as_the_second_way_finds_them(self):
        for calls, model, source in some_networks(250, 1):
            self.assertEqual(fractions_of(last(*calls, FLOWS)), model.flows(), calls)


class Pressures(unittest.TestCase):
    def test_before_there_is_any_network(self):
        self.assertEqual(last(PRESSURES), [0])

    def test_two_loops(self):
        self.assertEqual(last(net(LOOPS), PRESSURES), [0, 0, 1, 75, 32, 63, 32])

    def test_pressures_below_0(self):
        self.assertEqual(last(net("pipe a b 2\npump b a 1 6\n"), PRESSURES), [0, 0, 1, -2, 1])

    def test_0_at_the_least_of_each_group(self):
        words = "pump c d 1 6\nvalve d e 1\npump f e 1 4\npipe d c 1\npipe f e 1\n"
        # c 0, d 1, e 2, f 3: with the valve open one group, then two.
        found = each(net(words), PRESSURES, opens(1, 0, 1), PRESSURES, opens(1, 1, 3), PRESSURES)
        self.assertEqual(found[1], [0, 0, 1, 3, 1, 3, 1, 1, 1])
        self.assertEqual(found[3], [0, 0, 1, 3, 1, 0, 1, -2, 1])
        self.assertEqual(found[5], found[1])

    def test_a_junction_by_itself(self):
        found = each(net("pump a b 1 6\nvalve b c 1\npipe b a 1\n"), opens(1, 0, 1), PRESSURES)
        self.assertEqual(found[2], [0, 0, 1, 3, 1, 0, 1])

    def test_a_pump_that_drives_nothing_presses_all_the_same(self):
        self.assertEqual(last(net("pump a b 1 5/2\npipe b c 1\n"), PRESSURES), [0, 0, 1, 5, 2, 5, 2])

    def test_as_the_second_way_finds_them(self):
        for calls, model, source in some_networks(250, 2):
            self.assertEqual(fractions_of(last(*calls, PRESSURES)), model.pressures(), calls)

    def test_flows_and_pressures_belong_together(self):
        for calls, model, source in some_networks(60, 3):
            found = each(*calls, FLOWS, PRESSURES)
            self.assertEqual(last(*calls, check(found[-2][1:], found[-1][1:])), [0, 1], calls)


class Work(unittest.TestCase):
    def test_before_there_is_any_network(self):
        self.assertEqual(last(WORK), [0, 0, 1, 0, 1])

    def test_two_loops(self):
        self.assertEqual(last(net(LOOPS), WORK), [0, 63, 16, 63, 16])

    def test_pumps_against_one_another(self):
        # 5 * 3/2 - 2 * 3/2, and 2 * (3/2) ** 2.
        self.assertEqual(last(net("pump a b 1 5\npump a b 1 2\n"), WORK), [0, 9, 2, 9, 2])

    def test_nothing_flows(self):
        self.assertEqual(last(net("pump a b 1 5\npipe b c 1\n"), WORK), [0, 0, 1, 0, 1])
        self.assertEqual(last(net(LOOPS), opens(2, 0, 1), WORK), [0, 0, 1, 0, 1])
        self.assertEqual(last(net(LOOPS), head(0, 0, 1), WORK), [0, 0, 1, 0, 1])

    def test_what_pumps_do_is_what_friction_takes(self):
        above = 0
        for calls, model, source in some_networks(250, 4):
            work, friction = fractions_of(last(*calls, WORK))
            self.assertEqual(work, friction, calls)
            flows = model.flows()
            self.assertEqual([work, friction], [model.work(flows), model.friction(flows)], calls)
            above += work > 0
        self.assertTrue(above > 100, above)


class Across(unittest.TestCase):
    def test_before_there_is_any_network(self):
        self.assertEqual(last(across(0, 0)), [-1])

    def test_edges_that_there_are_not(self):
        for i, j in ((4, 0), (0, 4), (-1, 0), (0, -1), (-1, 9), (FAR, 0), (0, FAR), (-FAR, 0), (0, -FAR)):
            found = each(net(LOOPS), FLOWS, across(i, j), FLOWS)
            self.assertEqual(found[2], [-1])
            self.assertEqual(found[1], found[3])

    def test_two_loops(self):
        # The flows are 3 heads of 1 at the pump.
        self.assertEqual(last(net(LOOPS), across(0, 0)), [0, 7, 16])
        self.assertEqual(last(net(LOOPS), across(0, 1)), [0, 1, 16])
        self.assertEqual(last(net(LOOPS), across(0, 3)), [0, 3, 8])

    def test_whatever_kind_it_is(self):
        words = "pump a b 1 6\npipe b c 1\nvalve c a 1\npipe c b 1\n"
        self.assertEqual(last(net(words), across(1, 0)), [0, 1, 5])
        self.assertEqual(last(net(words), across(2, 0)), [0, 2, 5])
        self.assertEqual(last(net(words), across(3, 0)), [0, -1, 5])
        self.assertEqual(last(net(words), across(3, 3)), [0, 3, 5])

    def test_closed_edges(self):
        found = each(net(LOOPS), opens(3, 0, 1), across(3, 0), across(0, 3), across(3, 3), across(0, 1))
        self.assertEqual(found[2:5], [[0, 0, 1]] * 3)
        self.assertEqual(found[5], [0, 1, 4])

    def test_other_groups(self):
        found = each(net("pump a b 1 6\npipe a b 1\npump c d 1 1\npipe c d 1\n"), across(0, 2), across(2, 2))
        self.assertEqual(found[1:], [[0, 0, 1], [0, 1, 2]])

    def test_changes_nothing_and_heads_do_not_matter(self):
        found = each(net(LOOPS), FLOWS, across(1, 0), FLOWS, head(0, 77, 5), across(1, 0))
        self.assertEqual(found[1], found[3])
        self.assertEqual(found[2], found[5])

    def test_as_the_second_way_finds_them(self):
        for calls, model, source in some_networks(80, 6):
            for times in range(4):
                i = source.randrange(len(model.edges))
                j = source.randrange(len(model.edges))
                found = each(*calls, across(i, j), across(j, i))
                self.assertEqual(fractions_of(found[-2]), [model.across(i, j)], (calls, i, j))
                self.assertEqual(found[-2], found[-1], (calls, i, j))

    def test_one_more_head_of_a_pump(self):
        found = each(net(LOOPS), FLOWS, across(0, 1), head(0, 4, 1), FLOWS)
        before, more, after = fractions_of(found[1]), fractions_of(found[2]), fractions_of(found[4])
        self.assertEqual(ratios([before[1] + more[0]]), ratios([after[1]]))


if __name__ == "__main__":
    unittest.main()
