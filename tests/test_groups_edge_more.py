"""Calls 18 to 20: groups, edge, more."""

import random
import unittest
from fractions import Fraction

from helper import FLOWS, GROUPS, boiler, each, edge, everything, fractions_of, head, last, loss, more, net, opens
from helper import ratios, some_driven_network, some_networks, throttle

# Junctions c 0, b 1, a 2, d 3, e 4.
CHAIN = "valve c b 1\nvalve a b 1/2\npipe d e 2\nvalve e a 3\npump c b 1 7/3\n"
# Junctions a 0, b 1: two valves beside one another.
BESIDE = "pump a b 1 6\nvalve b a 1\nvalve b a 1\npipe c d 1\n"
FAR = 1000000000000000000


class Groups(unittest.TestCase):
    def test_before_there_is_any_network(self):
        self.assertEqual(last(GROUPS), [0])

    def test_all_hang_together(self):
        self.assertEqual(last(net(CHAIN), GROUPS), [0, 0, 0, 0, 0, 0])

    def test_valves_shut_and_opened_again(self):
        found = each(net(CHAIN), opens(1, 0, 1), GROUPS, opens(3, 0, 5), GROUPS, opens(0, 0, 1), GROUPS, opens(1, 1, 9),
                     GROUPS, opens(3, 1, 1000000), GROUPS)
        self.assertEqual(found[2], [0, 0, 0, 2, 2, 2])
        self.assertEqual(found[4], [0, 0, 0, 2, 3, 3])
        # The pump still binds its junctions, whatever it drives.
        self.assertEqual(found[6], [0, 0, 0, 2, 3, 3])
        self.assertEqual(found[8], [0, 0, 0, 0, 3, 3])
        self.assertEqual(found[10], [0, 0, 0, 0, 0, 0])

    def test_a_pump_without_head_binds_too(self):
        self.assertEqual(last(net("pump a b 1 0\npump d c 1 0\n"), GROUPS), [0, 0, 0, 2, 2])

    def test_groups_from_the_beginning(self):
        self.assertEqual(last(net("pipe a b 1\npipe c d 1\npipe e f 1\npipe d b 1\n"), GROUPS), [0, 0, 0, 0, 0, 4, 4])

    def test_the_least_number_is_handed_on_by_long_ways(self):
        words = "pipe h g 1\npipe f e 1\npipe d c 1\npipe b a 1\npipe a d 1\npipe c f 1\npipe e g 1\n"
        self.assertEqual(last(net(words), GROUPS), [0] * 9)
        backwards = "".join(reversed(words.splitlines(keepends=True)))
        self.assertEqual(last(net(backwards), GROUPS), [0] * 9)

    def test_behind_throttle_and_net(self):
        found = each(net("pump a b 1 0\nvalve b a 1\nvalve b c 1\n"), throttle(ratios([1, 1, 0])), GROUPS,
                     net("valve x y 1\n"), GROUPS)
        self.assertEqual(found[2], [0, 0, 0, 2])
        self.assertEqual(found[4], [0, 0, 0])

    def test_as_the_second_way_finds_them(self):
        several = 0
        for calls, model, source in some_networks(200, 31):
            found = last(*calls, GROUPS)
            ways = model.tree()[0]
            self.assertEqual(found, [0] + [ways[junction][0] for junction in range(len(model.names))], calls)
            several += len(set(found[1:])) > 1
        self.assertTrue(several > 25, several)


class Edge(unittest.TestCase):
    def test_kinds_junctions_and_conductances(self):
        found = each(net(CHAIN), *[edge(number) for number in range(5)])
        behind = [0, 1, 1, 1, 0, 1, 0, 1]
        self.assertEqual(found[1], [0, 1, 0, 1, 1, 1] + behind)
        self.assertEqual(found[2], [0, 1, 2, 1, 1, 2] + behind)
        self.assertEqual(found[3], [0, 0, 3, 4, 2, 1] + behind)
        self.assertEqual(found[4], [0, 1, 4, 2, 3, 1] + behind)
        self.assertEqual(found[5], [0, 2, 0, 1, 1, 1, 7, 3, 1, 1, 0, 1, 0, 1])

    def test_in_lowest_terms(self):
        found = each(net("pump a b 6/4 10/6\nvalve b a 8/2\n"), edge(0), opens(1, 6, 8), loss(1, 2, 6, -4), edge(1),
                     head(0, 0, 9), loss(1, 0, 9, 0), opens(1, 0, 7), edge(0), edge(1))
        self.assertEqual(found[1], [0, 2, 0, 1, 3, 2, 5, 3, 1, 1, 0, 1, 0, 1])
        self.assertEqual(found[4], [0, 1, 1, 0, 4, 1, 0, 1, 3, 4, 1, 3, -4, 1])
        self.assertEqual(found[8], [0, 2, 0, 1, 3, 2, 0, 1, 1, 1, 0, 1, 0, 1])
        self.assertEqual(found[9], [0, 1, 1, 0, 4, 1, 0, 1, 0, 1, 0, 1, 0, 1])

    def test_behind_throttle_beyond_what_is_told(self):
        found = each(net(BESIDE), throttle([FAR, 1, FAR - 1, 1, 1, 1, 0, 1]), edge(0), edge(1), edge(2))
        self.assertEqual(found[2], [0, 2, 0, 1, 1, 1, 2 * FAR - 1, 1, 1, 1, 0, 1, 0, 1])
        self.assertEqual(found[3][8:10], [1, 1])
        self.assertEqual(found[4][8:10], [1, FAR - 1])

    def test_edges_that_there_are_not(self):
        for number in (-1, 5, FAR, -FAR):
            asked = everything(CHAIN)
            found = each(net(CHAIN), *asked, edge(number), *asked)
            self.assertEqual(found[1 + len(asked)], [-1])
            self.assertEqual(found[1:1 + len(asked)], found[2 + len(asked):])

    def test_before_there_is_any_network(self):
        self.assertEqual(last(edge(0)), [-1])

    def test_as_told_by_texts_and_calls(self):
        for calls, model, source in some_networks(60, 32):
            found = each(*calls, *[edge(number) for number in range(len(model.edges))])
            for part, answer in zip(model.edges, found[len(calls):]):
                kind = ("pipe", "valve", "pump").index(part["kind"])
                numbers = ratios([part["conductance"], part["head"], part["opening"], 0, 0])
                self.assertEqual(answer, [0, kind] + list(part["ends"]) + numbers)


class More(unittest.TestCase):
    def refused(self, words, call, number, *calls):
        """The call is refused so, and all is as it was."""
        asked = everything(words)
        found = each(net(words), *calls, *asked, call, *asked)
        self.assertEqual(found[-len(asked) - 1], [number], call)
        self.assertEqual(found[-2 * len(asked) - 1:-len(asked) - 1], found[-len(asked):], call)

    def test_now_and_then(self):
        self.assertEqual(last(net(BESIDE), more(1, 0, 1)), [0, 4, 1, 3, 1])
        self.assertEqual(last(net(BESIDE), more(1, 1, 1)), [0, 4, 1, 4, 1])
        self.assertEqual(last(net(BESIDE), opens(2, 0, 1), more(2, 1, 1)), [0, 3, 1, 4, 1])
        self.assertEqual(last(net(BESIDE), opens(2, 0, 1), more(1, 1, 2)), [0, 3, 1, 2, 1])
        self.assertEqual(last(net(BESIDE), opens(2, 0, 1), more(1, 500000, 1000000)), [0, 3, 1, 2, 1])
        self.assertEqual(last(net(BESIDE), opens(2, 0, 1), more(1, 0, 1000000)), [0, 3, 1, 0, 1])
        self.assertEqual(last(net(BESIDE), opens(2, 0, 1), opens(1, 0, 1), more(1, 1, 1)), [0, 0, 1, 3, 1])
        self.assertEqual(last(net(BESIDE), more(1, 1000000, 1000000)), [0, 4, 1, 4, 1])
        self.assertEqual(last(net(BESIDE), opens(2, 0, 1), more(1, 1, 1000000)), [0, 3, 1, 6, 1000001])

    def test_a_pump_that_is_not_the_first_edge(self):
        self.assertEqual(last(net("valve a b 1\npipe b c 1\npump c a 1 6\n"), more(0, 1, 2)), [0, 2, 1, 3, 2])

    def test_a_pump_without_head(self):
        self.assertEqual(last(net(BESIDE), head(0, 0, 1), more(1, 1, 2)), [0, 0, 1, 0, 1])

    def test_behind_throttle(self):
        found = each(net(BESIDE), throttle(ratios([3, 1, 2, 0])), more(1, 1, 1), more(2, 0, 1))
        self.assertEqual(found[1:], [[0, 5, 1], [0, 3, 1, 10, 3], [0, 3, 1, 5, 3]])

    def test_changes_nothing(self):
        asked = everything(BESIDE)
        calls = [net(BESIDE), opens(2, 1, 3), loss(1, 1, 2, 20), boiler(1, 60)]
        found = each(*calls, *asked, more(1, 0, 1), more(2, 1, 1), *asked)
        self.assertEqual(found[4:4 + len(asked)], found[-len(asked):])

    def test_numbers_out_of_range(self):
        for n, d in ((-1, 1), (2, 1), (1000000, 999999), (0, 0), (1, 0), (0, -1), (-1, -1), (1000001, 1000001),
                     (0, 1000001), (FAR, FAR), (-FAR, 1), (0, FAR), (0, -FAR)):
            self.refused(BESIDE, more(1, n, d), -1, opens(1, 1, 2))
        for number in (-1, 4, FAR, -FAR):
            self.refused(BESIDE, more(number, 1, 2), -1)

    def test_no_valve(self):
        self.refused(BESIDE, more(0, 1, 2), -3)
        self.refused(BESIDE, more(3, 1, 2), -3)

    def test_no_pump_or_two(self):
        self.refused("valve a b 1\n", more(0, 1, 2), -3)
        self.refused("pump a b 1 6\nvalve b a 1\npump b a 1 0\n", more(1, 1, 2), -3)
        self.refused("pump a b 1 6\nvalve b a 1\npump c d 1 0\n", more(1, 1, 2), -3)
        self.refused("pipe a b 1\n", more(0, 1, 2), -3)

    def test_the_refusal_nearest_to_0(self):
        self.refused(BESIDE, more(0, 2, 1), -1)
        self.refused("valve a b 1\n", more(0, 0, 0), -1)
        self.refused("valve a b 1\n", more(1, 0, 1), -1)
        self.refused("pump a b 1 6\nvalve b a 1\npump b a 1 0\n", more(1, -1, 2), -1)

    def test_before_there_is_any_network(self):
        self.assertEqual(last(more(0, 1, 2)), [-1])

    def test_opening_more_never_lessens_what_the_only_pump_drives(self):
        source = random.Random(33)
        greater = 0
        asked = 0
        for times in range(150):
            calls, model = some_driven_network(source)
            for number, part in enumerate(model.edges):
                if part["kind"] != "valve":
                    continue
                before = part["opening"]
                below = source.choice((1, 3, 1000000))
                opening = Fraction(source.randint(0, below), below)
                now, then = fractions_of(last(*calls, more(number, opening.numerator, opening.denominator)))
                self.assertEqual(now, model.flows()[model.pump()], calls)
                found = each(*calls, opens(number, opening.numerator, opening.denominator), FLOWS)
                self.assertEqual(fractions_of(found[-1])[model.pump()], then, calls)
                part["opening"] = opening
                self.assertEqual(then, model.flows()[model.pump()], calls)
                part["opening"] = before
                if opening >= before:
                    self.assertTrue(then >= now, calls)
                if opening <= before:
                    self.assertTrue(then <= now, calls)
                asked += 1
                greater += then != now
        self.assertTrue(asked > 300 and greater > 100, (asked, greater))


if __name__ == "__main__":
    unittest.main()
