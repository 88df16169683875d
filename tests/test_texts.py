"""Calls 0 to 2: net, read, print."""

import random
import unittest

from helper import FLOWS, Model, PRESSURES, PRINT, each, head, last, net, opens, read, text

RING = "pump a b 2 3\npipe b c 1/2\nvalve c a 4/6\n"
RING_PRINTED = "pump a b 2 3\npipe b c 1/2\nvalve c a 2/3\n"


def chain(how_many):
    """So many pipes, one behind another, through junctions with names of their own."""
    return "".join([f"pipe {chr(97 + k)} {chr(98 + k)} 1\n" for k in range(how_many)])


def printed(words):
    return [0] + list(words.encode("latin-1"))


class Net(unittest.TestCase):
    def test_answers_how_many_junctions_and_edges(self):
        self.assertEqual(last(net(RING)), [0, 3, 3])
        self.assertEqual(last(net("pipe a b 1\n")), [0, 2, 1])
        self.assertEqual(last(net("pipe a b 1\npump b a 1 1\nvalve c d 1\nvalve d a 1\n")), [0, 4, 4])

    def test_refuses_what_is_no_network(self):
        for words in ("", "\n", "pipe a b 1", "pipe a a 1\n", "pipe a b 0\n", RING + "x", RING + "\n", RING + " "):
            self.assertEqual(last(net(words)), [-2], words)

    def test_all_is_as_it_was_behind_a_refusal(self):
        found = each(net(RING), head(0, 5, 3), opens(2, 1, 4), PRINT, FLOWS, net("pipe a b 1\npipe a b 0\n"), PRINT,
                     FLOWS)
        self.assertEqual(found[5], [-2])
        self.assertEqual(found[3:5], found[6:])

    def test_a_refusal_before_any_network_leaves_none(self):
        self.assertEqual(each(net("pipe a b 1"), PRINT, FLOWS, PRESSURES), [[-2], [0], [0], [0]])

    def test_a_new_network_takes_the_place_of_the_old_one(self):
        found = each(net(RING), opens(2, 0, 1), head(0, 9, 1), net("valve x y 1\n"), PRINT)
        self.assertEqual(found[3:], [[0, 2, 1], printed("valve x y 1\n")])

    def test_valves_are_all_open_again(self):
        found = each(net(RING), FLOWS, opens(2, 0, 1), FLOWS, net(RING), FLOWS)
        self.assertNotEqual(found[1], found[3])
        self.assertEqual(found[1], found[5])
        self.assertEqual(each(net(RING), head(0, 9, 1), net(RING), PRINT)[3], printed(RING_PRINTED))

    def test_junctions_are_numbered_as_their_names_are_met(self):
        # Pressure is 0 at junction 0, the first name met, whatever its letters.
        self.assertEqual(last(net("pump z y 1 4\npipe a z 1\n"), PRESSURES), [0, 0, 1, 4, 1, 0, 1])
        self.assertEqual(last(net("pump y z 1 4\npipe a z 1\n"), PRESSURES), [0, 0, 1, 4, 1, 4, 1])


class Read(unittest.TestCase):
    def right(self, words, junctions, edges):
        self.assertEqual(each(read(words), net(words)), [[0, 1, junctions, edges], [0, junctions, edges]], words)

    def wrong(self, words, line):
        self.assertEqual(each(read(words), net(words)), [[0, 0, line], [-2]], words)

    def test_right_texts(self):
        self.right(RING, 3, 3)
        self.right("pipe a b 1\npipe a b 1\n", 2, 2)
        self.right("pipe pipe pump 1\nvalve valve pump 1\n", 3, 2)

    def test_changes_nothing(self):
        found = each(net(RING), head(0, 5, 3), opens(2, 1, 4), PRINT, FLOWS, read("pipe x y 3\n"), read("x"), PRINT,
                     FLOWS)
        self.assertEqual(found[3:5], found[7:])
        self.assertEqual(each(read(RING), PRINT), [[0, 1, 3, 3], [0]])

    def test_first_wrong_line(self):
        self.wrong("pipe a b 1\nx\npipe a b 1\n", 2)
        self.wrong("x\ny\n", 1)
        self.wrong("pipe a b 1\npipe a b 1\npipe a b 0\nx\n", 3)
        self.wrong("x", 1)

    def test_empty_text_and_empty_lines(self):
        self.wrong("", 1)
        self.wrong("\n", 1)
        self.wrong(" ", 1)
        self.wrong("  \n", 1)
        self.wrong("\npipe a b 1\n", 1)
        self.wrong("pipe a b 1\n\n", 2)
        self.wrong("pipe a b 1\n\npipe a b 1\n", 2)
        self.wrong("pipe a b 1\n ", 2)

    def test_no_byte_10_at_the_end(self):
        self.wrong("pipe a b 1", 1)
        self.wrong("pipe a b 1\npipe b c 1", 2)
        self.wrong("pipe a b 1\npipe b c 1\nx", 3)
        self.wrong("pipe a b 1\nx\npipe b c 1", 2)

    def test_eight_junctions_and_a_ninth(self):
        self.right(chain(7), 8, 7)
        self.wrong(chain(8), 8)
        self.wrong(chain(8) + "x\n", 8)
        self.right(chain(7) + "pipe a h 1\n", 8, 8)
        self.wrong(chain(6) + "pipe h i 1\n", 7)
        self.wrong(chain(7) + "pipe i a 1\n", 8)
        self.wrong(chain(7) + "pipe a b 1\npipe i a 1\n", 9)

    def test_fourteen_edges_and_a_fifteenth(self):
        self.right("pipe a b 1\n" * 14, 2, 14)
        self.wrong("pipe a b 1\n" * 15, 15)
        self.wrong("pipe a b 1\n" * 16, 15)
        self.wrong("pipe a b 1\n" * 14 + "\n", 15)
        self.right(chain(7) * 2, 8, 14)
        self.wrong(chain(7) * 2 + "pipe a b 1\n", 15)

    def test_names(self):
        self.right("pipe a abcdefgh 1\n", 2, 1)
        self.right("pipe zzzzzzzz b 1\n", 2, 1)
        self.right("pipe a aa 1\n", 2, 1)
        for names in ("abcdefghi b", "a abcdefghi", "a a", "abcdefgh abcdefgh", "A b", "a B", "a1 b", "a b2", "a_ b",
                      "a{ b", "a` b", "a \xe4", "a b-", "1 2"):
            self.wrong(f"pipe {names} 1\n", 1)

    def test_kinds(self):
        for kind in ("Pipe", "pipes", "pip", "PUMP", "valv", "tube", "pipe,", "0"):
            self.wrong(f"{kind} a b 1\n", 1)
            self.wrong(f"{kind} a b 1 1\n", 1)

    def test_how_many_things_a_line_has(self):
        for line in ("pipe", "pipe a", "pipe a b", "pipe a b 1 1", "valve a b", "valve a b 1 1", "pump", "pump a b",
                     "pump a b 1", "pump a b 1 1 1", "pump a b 1 1 x", "a b 1", "pipe a b c 1", "pump a b c 1 1",
                     "pipe a 1", "pipe a b 1 ; pipe a b 1"):
            self.wrong(line + "\n", 1)
        self.right("pump a b 1 1\n", 2, 1)
        self.right("valve a b 1\n", 2, 1)

    def test_blanks(self):
        self.right("   pipe a b 1\n", 2, 1)
        self.right("pipe a b 1   \n", 2, 1)
        self.right("  pump   a  b     1/2    3  \n", 2, 1)
        for line in ("pipe\ta b 1", "\tpipe a b 1", "pipe a b 1\t", "pipe a b 1\r", "pipe a b\x0b1", "pipe a b\xa01",
                     "pipea b 1", "pipe ab1", "pipe a b 1 / 2", "pipe a b 1 /2", "pipe a b 1/ 2", "pipe a b 1\x00"):
            self.wrong(line + "\n", 1)

    def test_conductances(self):
        for ratio in ("1", "1000000", "1/1", "1/1000000", "1000000/1000000", "6/4", "10", "100/10"):
            self.right(f"pipe a b {ratio}\n", 2, 1)
            self.right(f"valve a b {ratio}\n", 2, 1)
            self.right(f"pump a b {ratio} 1\n", 2, 1)
        for ratio in ("0", "0/1", "0/7", "00", "01", "1/01", "1/0", "1/00", "1000001", "1/1000001", "0000001", "/",
                      "1/", "/1", "1/2/3", "1//2", "+1", "-1", "1/-1", "1/+1", "1.5", "1e3", "x", "1x", "1/x", "\xb2",
                      "10000000", "1" * 700, "1/" + "1" * 700, "1:", "1;"):
            self.wrong(f"pipe a b {ratio}\n", 1)
            self.wrong(f"valve a b {ratio}\n", 1)
            self.wrong(f"pump a b {ratio} 1\n", 1)

    def test_heads(self):
        for ratio in ("0", "0/1", "0/1000000", "1", "1000000", "1000000/7", "4/6"):
            self.right(f"pump a b 1 {ratio}\n", 2, 1)
        for ratio in ("00", "0/0", "01", "1/01", "1000001", "1/1000001", "1/0", "-1", "1/", "/1", "1/2/3", "x", "0/"):
            self.wrong(f"pump a b 1 {ratio}\n", 1)

    def test_texts_of_800_bytes(self):
        self.wrong("\n" * 800, 1)
        self.wrong(" " * 800, 1)
        self.wrong("\xff" * 800, 1)
        line = "pipe a b 1\n"
        self.right(" " * (800 - len(line)) + line, 2, 1)

    def test_texts_with_small_faults_as_a_second_reader_reads_them(self):
        source = random.Random(5)
        right = 0
        for number in range(1500):
            lines = []
            for line in range(source.randint(1, 6)):
                kind = source.choice(("pipe", "valve", "pump"))
                ends = source.sample("abcdefghijk", 2)
                ratios = [source.choice(("1", "3/4", "0", "1000000", "10/4")) for k in range(2)]
                words = [kind] + ends + [ratios[0].replace("0", "5") if source.random() < 0.9 else ratios[0]]
                if (kind == "pump") != (source.random() < 0.02):
                    words.append(ratios[1])
                lines.append(source.choice((" ", " ", "  ")).join(words) + "\n")
            words = "".join(lines)
            if source.random() < 0.4:
                place = source.randrange(len(words) + 1)
                sign = source.choice(("", "\n", " ", "/", "0", "1", "a", "A", "\t", "\r", "-", "."))
                words = words[:place] + sign + words[place + source.randint(0, 1):]
            model = Model(words)
            if model.wrong:
                self.wrong(words, model.wrong)
            else:
                right += 1
                self.right(words, len(model.names), len(model.edges))
        self.assertTrue(300 < right < 1200, right)


class Print(unittest.TestCase):
    def one_text(self, words, expected):
        self.assertEqual(last(net(words), PRINT), printed(expected))
        self.assertEqual(last(net(expected), PRINT), printed(expected))

    def test_before_there_is_any_network(self):
        self.assertEqual(last(PRINT), [0])

    def test_one_blank_between_two_things_and_none_at_the_ends(self):
        self.one_text("  pump   a  b     1/2    3  \n pipe b  a 7\n", "pump a b 1/2 3\npipe b a 7\n")

    def test_fractions_in_lowest_terms(self):
        self.one_text(RING, RING_PRINTED)
        self.one_text("pipe a b 6/3\n", "pipe a b 2\n")
        self.one_text("pipe a b 1000000/1000000\n", "pipe a b 1\n")
        self.one_text("pipe a b 5/1\n", "pipe a b 5\n")
        self.one_text("valve a b 999998/1000000\n", "valve a b 499999/500000\n")
        self.one_text("pump a b 9/6 0/7\n", "pump a b 3/2 0\n")
        self.one_text("pump a b 1 12/18\n", "pump a b 1 2/3\n")

    def test_edges_in_their_order_by_their_junctions_names(self):
        words = "valve zz abcdefgh 3\npump b zz 1 0\npipe abcdefgh b 1/7\npipe b abcdefgh 1/7\n"
        self.one_text(words, words)

    def test_head_is_as_it_is_now(self):
        found = each(net(RING), head(0, 10, 4), PRINT, head(0, 0, 9), PRINT, head(0, 1000000, 1), PRINT)
        self.assertEqual(found[2], printed("pump a b 2 5/2\npipe b c 1/2\nvalve c a 2/3\n"))
        self.assertEqual(found[4], printed("pump a b 2 0\npipe b c 1/2\nvalve c a 2/3\n"))
        self.assertEqual(found[6], printed("pump a b 2 1000000\npipe b c 1/2\nvalve c a 2/3\n"))

    def test_openings_are_not_told(self):
        self.assertEqual(last(net(RING), opens(2, 0, 1), PRINT), printed(RING_PRINTED))

    def test_counted_as_the_interface_tells(self):
        self.assertEqual(net("pipe a b 1\n")[:3], [0, 11, ord("p")])
        self.assertEqual(text(""), [0])


if __name__ == "__main__":
    unittest.main()
