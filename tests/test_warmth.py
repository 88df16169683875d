"""Calls 13 to 17: loss, boiler, unboil, warmth, heat."""

import random
import unittest
from fractions import Fraction

from helper import HEAT, WARMTH, boiler, each, edge, everything, fractions_of, head, last, loss, net, opens, ratios
from helper import some_network, some_warmth, throttle, unboil

# Junctions a 0, b 1: 4 flows round.
RING = "pump a b 1 6\npipe b a 2\n"
# Junctions a 0, b 1, c 2, d 3: from b 1 flows by c and 2 by d, 3 by the pump.
FORK = "pump a b 3 3\npipe b c 1\npipe c a 1\nvalve b d 2\npipe d a 2\n"
# The same with edges told the other way: flows below 0.
BACK = "pump a b 3 3\npipe c b 1\npipe a c 1\nvalve d b 2\npipe a d 2\n"
# Junctions a 0, b 1, c 2, d 3: two rings, with a pipe between through which nothing flows.
TWO_RINGS = "pump a b 1 6\npipe b a 2\npipe b c 1\npump c d 1 6\npipe d c 2\n"
FAR = 1000000000000000000


class Refusals(unittest.TestCase):
    def refused(self, words, call, number, *calls):
        """The call is refused so, and all is as it was."""
        asked = everything(words)
        before = [net(words)] if words else []
        found = each(*before, *calls, *asked, call, *asked)
        self.assertEqual(found[-len(asked) - 1], [number], call)
        self.assertEqual(found[-2 * len(asked) - 1:-len(asked) - 1], found[-len(asked):], call)


class Loss(Refusals):
    def test_sets_loss_and_room(self):
        found = each(net(RING), loss(1, 1, 2, 20), edge(1), loss(1, 0, 5, -7), edge(1), loss(0, 4, 6, 3), edge(0),
                     edge(1))
        self.assertEqual(found[1:3], [[0], [0, 0, 1, 0, 2, 1, 0, 1, 1, 1, 1, 2, 20, 1]])
        self.assertEqual(found[3:5], [[0], [0, 0, 1, 0, 2, 1, 0, 1, 1, 1, 0, 1, -7, 1]])
        self.assertEqual(found[5:7], [[0], [0, 2, 0, 1, 1, 1, 6, 1, 1, 1, 2, 3, 3, 1]])
        self.assertEqual(found[7], found[4])

    def test_edges_of_ranges(self):
        for n, d, room, told in ((0, 1, 0, [0, 1, 0, 1]), (1, 1, 1000000, [1, 1, 1000000, 1]),
                                 (1000000, 1000000, -1000000, [1, 1, -1000000, 1]),
                                 (1, 1000000, 1, [1, 1000000, 1, 1]), (0, 1000000, -1, [0, 1, -1, 1]),
                                 (999999, 1000000, 5, [999999, 1000000, 5, 1])):
            for number in (0, 1):
                found = each(net(RING), loss(number, n, d, room), edge(number))
                self.assertEqual(found[1], [0])
                self.assertEqual(found[2][-4:], told)

    def test_whatever_kind_the_edge_is(self):
        for number in range(5):
            self.assertEqual(last(net(FORK), loss(number, 1, 2, 3), edge(number))[-4:], [1, 2, 3, 1])

    def test_numbers_out_of_range(self):
        calls = [loss(1, 1, 3, 20), boiler(0, 60)]
        for n, d, room in ((-1, 1, 0), (2, 1, 0), (1000000, 999999, 0), (0, 0, 0), (0, -1, 0), (-1, -1, 0), (1, 0, 0),
                           (1000001, 1000001, 0), (1, 1000001, 0), (0, 1000001, 0), (1, 2, 1000001), (1, 2, -1000001),
                           (FAR, FAR, 0), (-FAR, 1, 0), (0, FAR, 0), (0, -FAR, 0), (1, 2, FAR), (1, 2, -FAR)):
            self.refused(RING, loss(1, n, d, room), -1, *calls)
        for number in (-1, 2, FAR, -FAR):
            self.refused(RING, loss(number, 1, 2, 0), -1, *calls)

    def test_before_there_is_any_network(self):
        self.refused("", loss(0, 1, 2, 3), -1)


class Boiler(Refusals):
    def test_makes_a_boiler(self):
        found = each(net(RING), boiler(1, 80), WARMTH, unboil(1), WARMTH)
        self.assertEqual(found[1:], [[0], [0, 80, 1, 80, 1], [0], [-6]])

    def test_told_twice(self):
        found = each(net(RING), boiler(1, 80), boiler(1, 30), WARMTH, unboil(1), WARMTH, unboil(1))
        self.assertEqual(found[1:], [[0], [0], [0, 30, 1, 30, 1], [0], [-6], [-4]])

    def test_edges_of_ranges(self):
        for warmth in (-1000000, 1000000, 0, -1):
            for junction in (0, 1):
                found = each(net(RING), boiler(junction, warmth), WARMTH)
                self.assertEqual(found[1:], [[0], [0, warmth, 1, warmth, 1]])

    def test_numbers_out_of_range(self):
        calls = [boiler(0, 60), loss(1, 1, 2, 20)]
        for junction, warmth in ((0, 1000001), (0, -1000001), (1, FAR), (1, -FAR), (-1, 5), (2, 5), (FAR, 5),
                                 (-FAR, 5), (2, 1000001)):
            self.refused(RING, boiler(junction, warmth), -1, *calls)

    def test_before_there_is_any_network(self):
        self.refused("", boiler(0, 0), -1)


class Unboil(Refusals):
    def test_only_that_boiler(self):
        found = each(net(RING), boiler(0, 60), boiler(1, 80), WARMTH, unboil(0), WARMTH, unboil(1), boiler(0, 9),
                     WARMTH)
        self.assertEqual(found[3:], [[0, 60, 1, 80, 1], [0], [0, 80, 1, 80, 1], [0], [0], [0, 9, 1, 9, 1]])

    def test_no_boiler(self):
        self.refused(RING, unboil(0), -4)
        self.refused(RING, unboil(1), -4, boiler(0, 60))
        self.refused(RING, unboil(0), -4, boiler(0, 60), boiler(1, 3), unboil(0))

    def test_a_boiler_of_warmth_0_is_one(self):
        self.assertEqual(each(net(RING), boiler(0, 0), WARMTH, unboil(0))[2:], [[0, 0, 1, 0, 1], [0]])

    def test_junctions_that_there_are_not(self):
        for junction in (-1, 2, FAR, -FAR):
            self.refused(RING, unboil(junction), -1, boiler(0, 60), boiler(1, 3))
            self.refused(RING, unboil(junction), -1)

    def test_before_there_is_any_network(self):
        self.refused("", unboil(0), -1)


class NetOnceMore(unittest.TestCase):
    def test_losses_rooms_boilers_and_openings_are_gone(self):
        words = FORK.replace("pipe", "valve")
        changed = [loss(number, 1, 2, 30 + number) for number in range(5)] + [boiler(0, 60), boiler(3, 20)]
        changed += [throttle(ratios([3, 2, 2, 1, 1])), opens(3, 1, 5), head(0, 99, 7)]
        asked = everything(words) + [unboil(0), unboil(3)]
        fresh = each(net(words), *asked)
        for new in (words, words.replace(" 1\n", "   2/2 \n")):
            found = each(net(words), *changed, net(new), *asked)
            self.assertEqual(found[1:1 + len(changed)], [[0]] * 7 + [[0, 5, 1]] + [[0]] * 2)
            self.assertEqual(found[-len(asked):], fresh[1:])

    def test_throttled_valves_are_open_again(self):
        told = ratios([2, 0, 0, 2, 2])
        found = each(net(FORK.replace("pipe", "valve")), throttle(told), edge(1), net(FORK), edge(1), edge(0), edge(3))
        self.assertEqual(found[2][8:10], [0, 1])
        self.assertEqual(found[4:], [[0, 0, 1, 2, 1, 1, 0, 1, 1, 1, 0, 1, 0, 1],
                                     [0, 2, 0, 1, 3, 1, 3, 1, 1, 1, 0, 1, 0, 1],
                                     [0, 1, 1, 3, 2, 1, 0, 1, 1, 1, 0, 1, 0, 1]])

    def test_a_refused_net_leaves_them(self):
        calls = [net(FORK), loss(2, 1, 2, 3), boiler(1, 9), opens(3, 1, 7)]
        found = each(*calls, *everything(FORK), net("pipe a b"), *everything(FORK), unboil(1))
        size = len(everything(FORK))
        self.assertEqual(found[4 + size], [-2])
        self.assertEqual(found[4:4 + size], found[5 + size:-1])
        self.assertEqual(found[-1], [0])


class Warmth(unittest.TestCase):
    def test_before_there_is_any_network(self):
        self.assertEqual(last(WARMTH), [0])

    def test_a_ring(self):
        found = each(net(RING), boiler(1, 80), loss(1, 1, 2, 20), WARMTH, loss(1, 1, 1, 20), WARMTH, loss(1, 0, 1, 20),
                     WARMTH)
        self.assertEqual(found[3], [0, 50, 1, 80, 1])
        self.assertEqual(found[5], [0, 20, 1, 80, 1])
        self.assertEqual(found[7], [0, 80, 1, 80, 1])

    def test_rooms_below_0_and_rooms_that_warm(self):
        self.assertEqual(last(net(RING), boiler(1, 80), loss(1, 1, 3, -10), WARMTH), [0, 50, 1, 80, 1])
        self.assertEqual(last(net(RING), boiler(1, -8), loss(1, 1, 4, 3), WARMTH), [0, -21, 4, -8, 1])

    def test_without_a_boiler_rooms_settle_it(self):
        self.assertEqual(last(net(RING), loss(1, 1, 2, 20), WARMTH), [0, 20, 1, 20, 1])
        self.assertEqual(last(net(RING), loss(1, 1, 1000000, 20), WARMTH), [0, 20, 1, 20, 1])
        self.assertEqual(last(net(RING), loss(1, 1, 2, 20), loss(0, 1, 2, 0), WARMTH), [0, 40, 3, 20, 3])
        self.assertEqual(last(net(RING), loss(1, 1, 1, 20), loss(0, 1, 1, 7), WARMTH), [0, 20, 1, 7, 1])

    def test_mixed_by_the_flows(self):
        # By c 60 - 20 = 40 arrives, by d 60 - 6 * 2 = 48: (40 + 2 * 48) / 3.
        calls = [boiler(1, 60), loss(1, 1, 2, 20), loss(3, 1, 5, 0)]
        self.assertEqual(last(net(FORK), *calls, WARMTH), [0, 136, 3, 60, 1, 40, 1, 48, 1])
        self.assertEqual(last(net(BACK), *calls, WARMTH), [0, 136, 3, 60, 1, 40, 1, 48, 1])

    def test_several_boilers(self):
        calls = [boiler(1, 60), boiler(2, 90), loss(1, 1, 2, 20), loss(4, 1, 2, 10)]
        # By c 90, by d 35.
        self.assertEqual(last(net(FORK), *calls, WARMTH), [0, 160, 3, 60, 1, 90, 1, 60, 1])
        self.assertEqual(last(net(BACK), *calls, WARMTH), [0, 160, 3, 60, 1, 90, 1, 60, 1])
        every = [boiler(junction, 5 - junction) for junction in range(4)]
        self.assertEqual(last(net(FORK), *calls, *every, WARMTH), [0, 5, 1, 4, 1, 3, 1, 2, 1])

    def test_not_settled(self):
        self.assertEqual(last(net(RING), WARMTH), [-6])
        self.assertEqual(last(net(RING), loss(0, 0, 1, 20), loss(1, 0, 7, 30), WARMTH), [-6])
        self.assertEqual(last(net(FORK), WARMTH), [-6])
        self.assertEqual(last(net(BACK), WARMTH), [-6])

    def test_each_water_that_goes_round_must_be_settled(self):
        calls = [net(TWO_RINGS), boiler(1, 60)]
        # Nothing flows through the pipe between: its loss settles nothing.
        self.assertEqual(last(*calls, WARMTH), [-6])
        self.assertEqual(last(*calls, loss(2, 1, 2, 20), WARMTH), [-6])
        self.assertEqual(last(*calls, loss(4, 1, 2, 20), WARMTH), [0, 60, 1, 60, 1, 20, 1, 20, 1])
        self.assertEqual(last(*calls, boiler(2, 7), WARMTH), [0, 60, 1, 60, 1, 7, 1, 7, 1])
        self.assertEqual(last(*calls, head(3, 0, 1), WARMTH), [0, 60, 1, 60, 1, 0, 1, 0, 1])
        self.assertEqual(last(net(TWO_RINGS), boiler(3, 60), WARMTH), [-6])
        self.assertEqual(last(net(TWO_RINGS), loss(0, 1, 9, 5), WARMTH), [-6])

    def test_junctions_into_which_nothing_flows(self):
        self.assertEqual(last(net("pipe a b 1\n"), WARMTH), [0, 0, 1, 0, 1])
        self.assertEqual(last(net("pipe a b 1\n"), loss(0, 1, 2, 20), WARMTH), [0, 0, 1, 0, 1])
        self.assertEqual(last(net("pipe a b 1\n"), boiler(1, 20), WARMTH), [0, 0, 1, 20, 1])
        self.assertEqual(last(net(RING + "pipe b c 1\n"), boiler(0, 20), WARMTH), [0, 20, 1, 20, 1, 0, 1])
        self.assertEqual(last(net(RING), head(0, 0, 1), WARMTH), [0, 0, 1, 0, 1])
        self.assertEqual(last(net(FORK), opens(3, 0, 1), boiler(1, 5), WARMTH), [0, 5, 1, 5, 1, 5, 1, 0, 1])
        self.assertEqual(last(net(FORK), opens(3, 0, 1), boiler(3, 5), WARMTH), [-6])

    def test_behind_throttle(self):
        words = "pump a b 1 0\nvalve b a 1\nvalve b c 1\nvalve c a 1\n"
        calls = [net(words), throttle(ratios([4, 1, 3, 3])), boiler(1, 50), loss(2, 1, 2, 0)]
        self.assertEqual(last(*calls, WARMTH), [0, 125, 4, 50, 1, 25, 1])

    def test_greatest_numbers(self):
        found = each(net(RING), boiler(1, 1000000), loss(1, 999999, 1000000, -1000000), WARMTH)
        self.assertEqual(found[3], [0, -999998, 1, 1000000, 1])

    def test_changes_nothing(self):
        calls = [net(FORK), boiler(1, 60), loss(1, 1, 2, 20)]
        asked = everything(FORK)
        found = each(*calls, *asked, WARMTH, HEAT, *asked)
        self.assertEqual(found[3:3 + len(asked)], found[-len(asked):])


class Heat(unittest.TestCase):
    def test_before_there_is_any_network(self):
        self.assertEqual(last(HEAT), [0])

    def test_a_ring(self):
        found = each(net(RING), boiler(1, 80), loss(1, 1, 2, 20), HEAT, loss(1, 1, 2, 140), HEAT)
        self.assertEqual(found[3], [0, 0, 1, 120, 1, 0, 1, 120, 1])
        self.assertEqual(found[5], [0, 0, 1, -120, 1, 0, 1, -120, 1])

    def test_without_a_boiler_rooms_warm_rooms(self):
        found = last(net(RING), loss(1, 1, 2, 20), loss(0, 1, 2, 0), HEAT)
        self.assertEqual(found, [0, 80, 3, -80, 3, 0, 1, 0, 1])

    def test_several_boilers(self):
        calls = [boiler(1, 60), boiler(2, 90), loss(1, 1, 2, 20), loss(4, 1, 2, 10)]
        # b: 3 * (60 - 160/3); c: 90 - 40. The rooms: 60 - 40, and 2 * (60 - 35).
        expected = [0, 0, 1, 20, 1, 0, 1, 0, 1, 50, 1, 0, 1, 20, 1, 50, 1, 0, 1]
        self.assertEqual(last(net(FORK), *calls, HEAT), expected)
        self.assertEqual(last(net(BACK), *calls, HEAT), expected)

    def test_what_arrives_at_a_boiler_has_given_before(self):
        # Both edges lose: the boiler makes up for both.
        found = last(net(RING), boiler(1, 80), loss(1, 1, 2, 20), loss(0, 1, 5, 10), HEAT)
        self.assertEqual(found, [0, 32, 1, 120, 1, 0, 1, 152, 1])

    def test_where_nothing_flows(self):
        self.assertEqual(last(net("pipe a b 1\n"), boiler(0, 60), loss(0, 1, 2, 20), HEAT), [0, 0, 1, 0, 1, 0, 1])
        found = last(net(RING + "pipe b c 1\n"), boiler(1, 80), boiler(2, 90), loss(2, 1, 2, 20), HEAT)
        self.assertEqual(found, [0] + [0, 1] * 6)

    def test_not_settled(self):
        self.assertEqual(last(net(RING), HEAT), [-6])
        self.assertEqual(last(net(TWO_RINGS), boiler(0, 5), HEAT), [-6])
        found = each(net(RING), boiler(0, 5), HEAT, unboil(0), HEAT, loss(0, 1, 2, 3), HEAT)
        self.assertEqual(found[2:], [[0] + [0, 1] * 4, [0], [-6], [0], [0] + [0, 1] * 4])


class SecondWay(unittest.TestCase):
    def test_warmths_keep_the_rules_and_heat_is_what_they_make(self):
        source = random.Random(21)
        counted = {"settled": 0, "not": 0, "heat": 0, "below": 0}
        for number in range(500):
            calls, model = some_network(source)
            calls = calls + some_warmth(source, model)
            found = each(*calls, WARMTH, HEAT)
            if not model.warmth_is_settled():
                counted["not"] += 1
                self.assertEqual(found[-2:], [[-6], [-6]], calls)
                continue
            counted["settled"] += 1
            warmths = fractions_of(found[-2])
            self.assertTrue(model.keeps_warmth(warmths), calls)
            given, brought = model.heat(warmths)
            self.assertEqual(fractions_of(found[-1]), given + brought, calls)
            counted["heat"] += any(given)
            counted["below"] += any(flow < 0 for flow in model.flows())
        self.assertTrue(counted["not"] > 50 and counted["heat"] > 100 and counted["below"] > 100, counted)

    def test_what_boilers_bring_is_what_rooms_get(self):
        source = random.Random(22)
        above = 0
        for number in range(400):
            calls, model = some_network(source)
            answer = last(*calls, *some_warmth(source, model), HEAT)
            if answer != [-6]:
                heats = fractions_of(answer)
                size = len(model.edges)
                self.assertEqual(len(heats), size + len(model.names))
                self.assertEqual(sum(heats[:size]), sum(heats[size:]), calls)
                above += sum(heats[:size]) != 0
        self.assertTrue(above > 60, above)

    def test_no_rooms_and_one_boiler_warm_all_alike(self):
        source = random.Random(23)
        for number in range(60):
            calls, model = some_network(source)
            every = [boiler(junction, 33) for junction in range(len(model.names))]
            self.assertEqual(fractions_of(last(*calls, *every, WARMTH)), [Fraction(33)] * len(every))
            self.assertEqual(fractions_of(last(*calls, *every, HEAT)), [0] * (len(every) + len(model.edges)))


if __name__ == "__main__":
    unittest.main()
