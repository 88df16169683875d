"""Calls 11 and 12: least and throttle."""

import random
import unittest
from fractions import Fraction

from helper import FLOWS, GROUPS, Model, PRESSURES, PRINT, WARMTH, WORK, boiler, check, each, edge, energy, everything
from helper import fractions_of, head, last, least, loss, net, opens, ratios, some_circulation, some_driven_network
from helper import throttle

# Junctions a 0, b 1, c 2: from b to c two valves beside one another, then a pipe.
BESIDE = "pump a b 1 5\nvalve b c 2\nvalve b c 1\npipe c a 1\n"
# Junctions a 0, b 1, c 2, d 3: two ways from b to a, and a pipe between them.
BRIDGE = "pump a b 1 0\nvalve b c 1\nvalve b d 1/2\npipe c d 1\npipe c a 1\npipe d a 1\n"
FAR = 1000000000000000000
NO_FRACTIONS = ([1], [1, 1, 1], [1, 0], [0, 0], [1, -1], [1, -FAR], [1, 1, 0, 0], [1, 0, 1, 1],
                [3, 1, 2, 1, 1, 1, 3, 0], [3, 1, 2, 1, 1, 1, 3], [-3, -1, 2, 1, 1, 1, 3, 1])


def whole(*flows):
    return ratios(flows)


class Least(unittest.TestCase):
    def had(self, words, flows, expected, *calls):
        """Least tells these fractions, throttle the first of them; then the flows are the told ones."""
        found = each(net(words), *calls, least(ratios(flows)), throttle(ratios(flows)), FLOWS)
        self.assertEqual(fractions_of(found[-3]), [Fraction(number) for number in expected])
        self.assertEqual(found[-2], found[-3][:3])
        self.assertEqual(fractions_of(found[-1]), [Fraction(flow) for flow in flows])

    def refused(self, words, flows, number, *calls):
        """Both calls are refused so, and all is as it was."""
        before = [boiler(0, 7), loss(0, 1, 2, 3)] if words else []
        asked = everything(words)
        found = each(*([net(words)] if words else []), *before, *calls, *asked, least(flows), throttle(flows), *asked)
        size = len(asked)
        self.assertEqual(found[-size - 2:-size], [[number], [number]], (words, flows))
        self.assertEqual(found[-2 * size - 2:-size - 2], found[-size:], (words, flows))

    def test_numbers_as_they_are_answered(self):
        self.assertEqual(last(net(BESIDE), least(whole(3, 1, 2, 3))), [0, 8, 1, 1, 1, 1, 4, 1, 1, 1, 1])
        self.assertEqual(last(net(BESIDE), throttle(whole(3, 1, 2, 3))), [0, 8, 1])

    def test_valves_beside_one_another(self):
        self.had(BESIDE, [3, 2, 1, 3], [7, 1, 1, 1, 1])
        self.had(BESIDE, [3, 1, 2, 3], [8, 1, Fraction(1, 4), 1, 1])
        self.had(BESIDE, [Fraction(5, 2), Fraction(5, 2), 0, Fraction(5, 2)], [Fraction(25, 4), 1, 1, 0, 1])
        self.had(BESIDE, [2, 0, 2, 2], [6, 1, 0, 1, 1])

    def test_valves_in_a_row_are_all_open(self):
        self.had("pump a b 1/2 5\nvalve b c 2\nvalve c d 1/3\nvalve d a 4\n", [4, 4, 4, 4], [23, 1, 1, 1, 1])

    def test_a_row_of_valves_beside_one(self):
        words = "pump a b 1 5\nvalve b c 2\nvalve c a 1\nvalve b a 1\n"
        self.had(words, [3, 2, 2, 1], [6, 1, 1, 1, Fraction(1, 3)])
        # The way by c must fall by 3/2 alone, but the other one by 2: only the last valve of the way is throttled.
        self.had(words, [3, 1, 1, 2], [5, 1, 1, Fraction(2, 3), 1])

    def test_pipes_beside_valves(self):
        words = "pump a b 1 0\npipe b a 1\nvalve b a 1\n"
        self.had(words, [3, 2, 1], [5, 1, 1, Fraction(1, 2)])
        self.had(words, [4, 2, 2], [6, 1, 1, 1])
        self.had(words, [2, 2, 0], [4, 1, 1, 0])
        self.refused(words, whole(3, 1, 2), -6)
        self.refused(words, whole(2, 0, 2), -6)
        self.refused(words, whole(2, 3, -1), -6)

    def test_pipes_beside_one_another(self):
        words = "pump a b 1 0\npipe b a 1\npipe b a 3\n"
        self.had(words, [4, 1, 3], [5, 1, 1, 1])
        self.refused(words, whole(4, 2, 2), -6)
        self.refused(words, whole(4, 3, 1), -6)

    def test_a_valve_whose_flow_is_below_0(self):
        self.had("pump a b 1 0\nvalve c b 2\nvalve c b 1\npipe c a 1\n", [3, -1, -2, 3], [8, 1, Fraction(1, 4), 1, 1])

    def test_a_pipe_whose_flow_is_below_0(self):
        self.had("pump a b 1 0\npipe a b 1\n", [2, -2], [4, 1, 1])
        self.had("pump a b 1 0\npipe a b 2\nvalve a b 2\n", [3, -2, -1], [4, 1, 1, Fraction(1, 2)])
        self.refused("pump a b 1 0\npipe a b 2\nvalve a b 2\n", whole(3, -1, -2), -6)

    def test_a_pipe_whose_flow_is_0(self):
        self.had(BRIDGE, [2, 1, 1, 0, 1, 1], [5, 1, Fraction(1, 2), 1, 1, 1, 1])
        self.refused(BRIDGE.replace("pipe d a 1\n", "pipe d a 1/2\n"), whole(2, 1, 1, 0, 1, 1), -6)

    def test_a_pipe_between_two_ways(self):
        # From c to d by 1, so d's fall of at least 2 asks for 1 at c at least, which is just what c's valve asks.
        self.had(BRIDGE.replace("d a 1\n", "d a 2\n"), [4, 3, 1, 1, 2, 2], [4 + 3 + 2, 1, 1, Fraction(1, 2), 1, 1, 1])
        self.refused(BRIDGE, whole(4, 3, 1, 1, 2, 2), -6)

    def test_a_pipe_presses_back_what_a_valve_asks_behind_it(self):
        # d must fall by 2 * 3 = 6, so c, from which 1 flows to d, by 5, though c's own valve asks for 2 alone.
        words = "pump a b 1 0\nvalve b c 1\nvalve b d 1/2\npipe c d 1\nvalve c a 1\nvalve d a 1\n"
        self.had(words, [5, 2, 3, 1, 1, 4], [15, 1, Fraction(2, 5), 1, 1, Fraction(1, 5), 1])

    def test_a_way_without_flow_at_its_end(self):
        words = "pump a b 1 0\npipe b a 1\npipe b c 1\nvalve c d 1\npipe d e 1\n"
        self.had(words, [2, 2, 0, 0, 0], [4, 1, 1, 1, 0, 1])

    def test_junctions_that_no_such_edges_lead_to(self):
        words = "pump a b 1 0\npipe b a 1\nvalve b c 1\npipe c d 1\nvalve e f 1\npipe f e 2\n"
        self.had(words, [2, 2, 0, 0, 0, 0], [4, 1, 1, 0, 1, 0, 1])

    def test_water_that_goes_round_without_the_pump(self):
        for others in ("pipe c d 1\npipe d c 1\n", "valve c d 1\nvalve d c 1\n", "pipe c d 1\nvalve d c 1\n"):
            words = "pump a b 1 0\npipe b a 1\n" + others
            self.refused(words, whole(2, 2, 1, 1), -6)
            self.refused(words, whole(2, 2, -1, -1), -6)
            self.refused("pump a b 1 0\npipe b a 1\nvalve b c 1\n" + others, whole(2, 2, 0, 1, 1), -6)
            self.refused("pump a b 1 0\npipe b a 1\npipe b c 1\n" + others, whole(2, 2, 0, 1, 1), -6)
            self.refused("pump a b 1 0\npipe b a 1\npipe c b 1\npipe a d 1\n" + others, whole(2, 2, 0, 0, 1, 1), -6)

    def test_falls_below_0(self):
        # Water comes to the pump's second junction by a pipe: its beginning falls by less than nothing.
        words = "pump a b 1 0\npipe b a 1\npipe c b 1\nvalve b c 1\n"
        self.refused(words, whole(2, 2, 1, 1), -6)
        self.refused("pump a b 1 0\npipe b a 1\npipe c b 1\nvalve a c 1\n", whole(2, 3, 1, 1), -6)
        self.refused("pump a b 1 0\nvalve b a 1\nvalve a b 1\n", whole(2, 3, 1), -6)

    def test_the_pumps_flow_is_not_above_0(self):
        self.refused(BESIDE, whole(0, 0, 0, 0), -6)
        self.refused(BESIDE, whole(-3, -2, -1, -3), -6)
        self.refused(BESIDE, whole(0, 1, -1, 0), -6)
        self.refused("pump a b 1 5\n", whole(0), -6)
        self.refused("pump a b 1 5\npipe b c 1\n", whole(0, 0), -6)

    def test_openings_and_head_before_do_not_matter(self):
        calls = [opens(1, 0, 1), opens(2, 1, 7), head(0, 0, 1)]
        self.had(BESIDE, [3, 1, 2, 3], [8, 1, Fraction(1, 4), 1, 1], *calls)

    def test_fractions_not_in_lowest_terms(self):
        flows = [6, 2, 7, 7, 2 * 10**17, 10**17, 21, 7]
        self.assertEqual(last(net(BESIDE), least(flows)), [0, 8, 1, 1, 1, 1, 4, 1, 1, 1, 1])
        self.assertEqual(last(net(BESIDE), throttle(flows)), [0, 8, 1])

    def test_greatest_and_least_numbers(self):
        for flow in (Fraction(FAR), Fraction(1, FAR), Fraction(FAR - 1, FAR), Fraction(FAR, FAR - 1)):
            self.had("pump a b 1/1000000 0\nvalve b a 1000000\n", [flow, flow],
                     [flow * 1000000 + flow / 1000000, 1, 1])
        self.had("pump a b 1 0\nvalve b a 1\nvalve b a 1\n", [FAR, FAR - 1, 1],
                 [2 * FAR - 1, 1, 1, Fraction(1, FAR - 1)])

    def test_rows_that_are_not_of_fractions(self):
        for wrong in NO_FRACTIONS:
            self.refused(BESIDE, wrong, -1)
            self.refused("pipe a b 1\n", wrong, -1)
            self.refused("", wrong, -1)

    def test_no_pump_or_two(self):
        self.refused("pipe a b 1\n", whole(0), -3)
        self.refused("valve a b 1\npipe b a 1\n", whole(1, 1), -3)
        self.refused("pump a b 1 1\npump b a 1 1\n", whole(1, 1), -3)
        self.refused("pump a b 1 1\npump b a 1 0\n", whole(1, 1), -3)
        self.refused("pump a b 1 1\npipe b a 1\npump c d 1 1\n", whole(1, 1, 0), -3)

    def test_as_many_as_edges(self):
        for wrong in ([], whole(3), whole(3, 1, 2), whole(3, 1, 2, 3, 0), [0, 1] * 20):
            self.refused(BESIDE, wrong, -4)

    def test_flows_that_do_not_circulate(self):
        for wrong in (whole(3, 1, 2, 2), whole(3, 1, 1, 3), whole(3, 0, 0, 0), [3, 1, 1, 1, 2, 1, FAR, FAR - 1]):
            self.refused(BESIDE, wrong, -4)

    def test_the_refusal_nearest_to_0(self):
        self.refused("pipe a b 1\n", [1, 0], -1)
        self.refused("pipe a b 1\n", whole(1), -3)
        self.refused("pipe a b 1\n", [], -3)
        self.refused("pump a b 1 1\npump b a 1 1\n", whole(1, -1), -3)
        self.refused("pump a b 1 1\npump b a 1 1\n", whole(-1, -1), -3)
        self.refused("pump a b 1 1\npump b a 1 1\n", [1, 1, 1], -1)
        self.refused(BESIDE, [-3, 1, 1, 1, 1, 1, 1, -1], -1)
        self.refused(BESIDE, whole(-3, 1, 1, 1), -4)
        self.refused(BESIDE, whole(0), -4)

    def test_before_there_is_any_network(self):
        self.assertEqual(each(least([]), throttle([]), least([1, 1]), throttle([1, 1]), least([1]), throttle([1])),
                         [[-3], [-3], [-3], [-3], [-1], [-1]])
        self.refused("", [], -3)

    def test_least_changes_nothing(self):
        asked = everything(BESIDE)
        found = each(net(BESIDE), opens(1, 1, 3), *asked, least(whole(3, 1, 2, 3)), *asked)
        self.assertEqual(found[2:2 + len(asked)], found[3 + len(asked):])

    def test_the_flows_of_a_network_are_had_with_no_more_head(self):
        source = random.Random(11)
        less = 0
        for number in range(300):
            calls, model = some_driven_network(source)
            flows = model.flows()
            found = each(*calls, least(ratios(flows)), throttle(ratios(flows)), FLOWS, PRESSURES)
            told = fractions_of(found[-4])
            least_head, openings = model.setting(flows)
            self.assertEqual(told, [least_head] + openings, (calls, flows))
            self.assertTrue(all(0 <= opening <= 1 for opening in openings))
            self.assertTrue(least_head <= model.heads()[model.pump()], (calls, flows))
            less += least_head < model.heads()[model.pump()]
            self.assertEqual(found[-3], found[-4][:3], (calls, flows))
            self.assertEqual(fractions_of(found[-2]), flows, (calls, flows))
            self.assertEqual(last(*calls, throttle(ratios(flows)), check(found[-2][1:], found[-1][1:])), [0, 1])
        self.assertTrue(60 < less < 300, less)

    def test_flows_that_circulate_are_had_or_not_as_the_second_way_finds(self):
        source = random.Random(12)
        had = 0
        refused = 0
        for number in range(600):
            calls, model = some_driven_network(source)
            for part in model.edges:
                part["opening"] = Fraction(1)
            flows = some_circulation(model, source)
            expected = model.setting(flows)
            answer = last(*calls, least(ratios(flows)))
            if expected is None:
                refused += 1
                self.assertEqual(answer, [-6], (calls, flows))
            else:
                had += 1
                self.assertEqual(fractions_of(answer), [expected[0]] + expected[1], (calls, flows))
                self.assertEqual(fractions_of(last(*calls, throttle(ratios(flows)), FLOWS)), flows, (calls, flows))
        self.assertTrue(had > 50 and refused > 200, (had, refused))


class Throttle(unittest.TestCase):
    FLOWS_TOLD = whole(3, 1, 2, 3)

    def test_sets_openings_and_head(self):
        found = each(net(BESIDE), opens(2, 0, 1), throttle(self.FLOWS_TOLD), *[edge(k) for k in range(4)])
        self.assertEqual(found[2], [0, 8, 1])
        self.assertEqual(found[3:], [[0, 2, 0, 1, 1, 1, 8, 1, 1, 1, 0, 1, 0, 1],
                                     [0, 1, 1, 2, 2, 1, 0, 1, 1, 4, 0, 1, 0, 1],
                                     [0, 1, 1, 2, 1, 1, 0, 1, 1, 1, 0, 1, 0, 1],
                                     [0, 0, 2, 0, 1, 1, 0, 1, 1, 1, 0, 1, 0, 1]])

    def test_losses_rooms_and_boilers_stay(self):
        found = each(net(BESIDE), loss(1, 2, 3, 20), boiler(2, 50), throttle(self.FLOWS_TOLD), edge(1), WARMTH)
        self.assertEqual(found[4], [0, 1, 1, 2, 2, 1, 0, 1, 1, 4, 2, 3, 20, 1])
        self.assertEqual(found[5], [0, 50, 1, 50, 1, 50, 1])

    def test_shuts_valves_without_flow(self):
        words = "pump a b 1 5\nvalve b a 1\nvalve b c 1\npipe c d 1\n"
        found = each(net(words), GROUPS, throttle(whole(1, 1, 0, 0)), GROUPS, PRESSURES, energy(whole(0, 0, 0, 0)))
        self.assertEqual(found[1], [0, 0, 0, 0, 0])
        self.assertEqual(found[3], [0, 0, 0, 2, 2])
        self.assertEqual(found[4], [0, 0, 1, 1, 1, 0, 1, 0, 1])
        self.assertEqual(found[5], [0, 0, 1, -2, 1])

    def test_print_behind_it(self):
        found = each(net(BESIDE), throttle(self.FLOWS_TOLD), PRINT, throttle([FAR, 1, FAR, 1, 0, 1, FAR, 1]), PRINT,
                     throttle([1, 7, 1, 7, 0, 1, 1, 7]), PRINT)
        self.assertEqual(found[2], [0] + list(BESIDE.replace("a b 1 5", "a b 1 8").encode()))
        # Beyond what's read.
        self.assertEqual(found[4], [0] + list(BESIDE.replace("a b 1 5", f"a b 1 {5 * FAR // 2}").encode()))
        self.assertEqual(found[6], [0] + list(BESIDE.replace("a b 1 5", "a b 1 5/14").encode()))

    def test_print_of_the_longest_heads(self):
        lines = [f"valve {place} {chr(ord(place) + 1)} 999983/{999979 - 6 * number}\n"
                 for number, place in enumerate("bcdefgh")]
        words = "pump h b 999961/999959 1\n" + "".join(lines).replace("valve h i 999983/999943\n", "")
        flow = Fraction(FAR - 1, FAR - 11)
        model = Model(words)
        told = sum((flow / part["conductance"] for part in model.edges), Fraction(0))
        found = each(net(words), throttle(ratios([flow] * len(model.edges))), PRINT)
        self.assertEqual(fractions_of(found[1]), [told])
        self.assertEqual(found[2], [0] + list(words.replace("999959 1\n", f"999959 {told}\n").encode()))

    def test_what_the_pump_does_then_is_what_friction_takes(self):
        # 8 * 3; the told flows are the flows, so no others have less energy.
        found = each(net(BESIDE), throttle(self.FLOWS_TOLD), WORK, energy(self.FLOWS_TOLD), energy([0, 1] * 4))
        self.assertEqual(found[2:], [[0, 24, 1, 24, 1], [0, -24, 1, -24, 1], [0, 0, 1, -24, 1]])

    def test_several_times(self):
        other = whole(2, 0, 2, 2)
        found = each(net(BESIDE), throttle(other), throttle(self.FLOWS_TOLD), FLOWS, throttle(other), FLOWS,
                     throttle(whole(-2, 0, -2, -2)), FLOWS)
        self.assertEqual(found[1:4], [[0, 6, 1], [0, 8, 1], [0] + self.FLOWS_TOLD])
        self.assertEqual(found[4:], [[0, 6, 1], [0] + other, [-6], [0] + other])

    def test_opens_and_head_behind_it(self):
        found = each(net(BESIDE), throttle(self.FLOWS_TOLD), opens(1, 1, 1), head(0, 5, 1), FLOWS, PRINT)
        self.assertEqual(found[4:], each(net(BESIDE), FLOWS, PRINT)[1:])


if __name__ == "__main__":
    unittest.main()
