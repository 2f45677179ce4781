"""Texts: [23.1] and [23.2]."""

import random
import unittest

from dawnway.errors import InvalidNet, InvalidNumber, InvalidOperation, InvalidTable, ParseError
from dawnway.net.nets import Net
from dawnway.rule.rows import RULES
from dawnway.rule.tables import answer, closure
from dawnway.text.formats import (
    read_day, read_list, read_net, read_table, write_day, write_list, write_net, write_table,
)
from tests.helpers import BARE, CHAIN, DAY, HARD, LATE, LINES, are_keys_ascending, crossed_net, is_same, odd_values, random_net

FAR = 10 ** 40 - 1
NET = Net({"in": 9, "on": 12}, {"fly": ("dawn", "in", 2, 5, 3)}, {"gap": ("on", "in", -2)})
NET_TEXT = "event in 9\nevent on 12\nwork fly dawn in 2 5 3\nbound gap on in -2"
DAY_TEXT = "at 6\nseen 5 in\nseen 6 on"
DAY_SEEN = ((5, "in"), (6, "on"))
# What is no integer as `str` writes it, or one of more than forty digits.
NO_INTEGERS = ("", "+3", "03", "-0", "00", "-03", "3.0", "3_0", "--3", "3-", "-", "three", "0x3", "1e3", " 3", "3 ", str(10 ** 40), str(-(10 ** 40)))
NO_NAMES = ("", "A", "7", "a_b", "x" * 13, ".a", "-a", "a,b", "a ", " a", "Dawn", "DAWN", "a\tb")


def nets():
    return [NET, DAY, HARD, BARE, CHAIN, LATE, *[random_net(seed, works=seed % 3) for seed in range(12)],
            *[crossed_net(seed) for seed in range(6)], Net({"a": 0}), Net({"a": 5, "b": 5}, (), {"x": ("a", "b", FAR), "y": ("b", "a", -FAR)})]


class TextTest(unittest.TestCase):
    def fails(self, index, read, *given):
        with self.assertRaises(ParseError, msg=given) as caught:
            read(*given)
        self.assertTrue(is_same(caught.exception.line, index), (caught.exception.line, index, given))

    def raises(self, error, call, *given):
        with self.assertRaises(error, msg=given) as caught:
            call(*given)
        return caught.exception


class NetTextTest(TextTest):
    def test_written(self):
        self.assertEqual(write_net(NET), NET_TEXT)
        turned = Net(dict(reversed(NET.lasts.items())), NET.works, NET.bounds)
        self.assertEqual(write_net(turned), NET_TEXT)
        self.assertEqual(write_net(Net({"b": 10 ** 30, "a": 0})), f"event a 0\nevent b {10 ** 30}")

    def test_read_back(self):
        texts = set()
        for net in nets():
            text = write_net(net)
            self.assertEqual(read_net(text), net)
            self.assertEqual(write_net(read_net(text)), text)
            texts.add(text)
        self.assertGreater(len(texts), 20)

    def test_lines_in_any_order(self):
        for seed, net in enumerate(nets()):
            lines = write_net(net).split("\n")
            for _ in range(5):
                random.Random(seed).shuffle(lines)
                self.assertEqual(read_net("\n".join(lines)), net)

    def test_each_form_with_one_thing_wrong(self):
        lines = NET_TEXT.split("\n")
        for at, line in enumerate(lines):
            words = line.split(" ")
            wrong = [" ".join(words[:-1]), " ".join([*words, "1"]), " " + line, line + " ", line.replace(" ", "  ", 1), line.upper(),
                     "\t".join(words), "x" + line, "", " ", " ".join(words[1:]), "line", line.replace(" ", ",")]
            for place, word in enumerate(words):
                others = NO_INTEGERS if word.lstrip("-").isdigit() else NO_NAMES if place > 0 else ("", "Event", "events", "net", "seen")
                wrong += [" ".join([*words[:place], other, *words[place + 1:]]) for other in others]
            for other in wrong:
                self.fails(at, read_net, "\n".join([*lines[:at], other, *lines[at + 1:]]))

    def test_which_line_comes_first(self):
        self.fails(1, read_net, "event a 3\nx\ny\nevent a 3")
        # A name that is told again counts as soon as a form that is none.
        self.fails(1, read_net, "event a 3\nevent a 4\nx")
        self.fails(1, read_net, "event a 3\nevent a 3")
        self.fails(2, read_net, "event a 3\nevent b 3\nx\nevent a 4")
        self.fails(3, read_net, "event a 3\nwork a dawn a 1 2 0\nbound a dawn a 4\nwork a dawn a 1 2 0")
        # The same name of an event, a work and a bound is no name told again.
        self.assertEqual(len(read_net("event a 3\nwork a dawn a 1 2 0\nbound a dawn a 4").bounds), 1)
        # The form of all lines comes ahead of the net.
        self.fails(1, read_net, "event dawn 3\nx")
        self.fails(0, read_net, "")
        self.fails(0, read_net, "\n" + NET_TEXT)
        self.fails(4, read_net, NET_TEXT + "\n")

    def test_what_is_no_net(self):
        for text in ("event dawn 3", "event a -1", f"event a {10 ** 30 + 1}", f"event a {FAR}", "work a dawn b 1 2 0", "bound a b c 1",
                     "event a 3\nwork w dawn a 0 2 0", "event a 3\nwork w dawn dawn 1 2 0", "event a 3\nbound x a a 1", "event a 3\nbound dawn dawn a 1",
                     "event a 3\nwork w dawn a 1 2 21", "event a 3\nwork dawn dawn a 1 2 0", "event a 3\nbound x a b 1"):
            self.raises(InvalidNet, read_net, text)
        self.raises(InvalidNet, read_net, "\n".join(f"event e{index} 1" for index in range(201)))

    def test_arguments(self):
        for value in odd_values():
            if not isinstance(value, str):
                self.fails(None, read_net, value)
            if not isinstance(value, Net):
                self.raises(InvalidNet, write_net, value)
        self.fails(0, read_net, "x" * 9000)


class ListTextTest(TextTest):
    def test_written(self):
        self.assertEqual(write_list(HARD, LINES), "line bound board land -5 bound walk\nline bound land board 4 bound soon\n"
                         "line bound land land -1 joined 1 0")
        wait = ((("wait", "board", "fly", 3), ("first", 0)),)
        self.assertEqual(write_list(HARD, wait), "line wait board fly 3 first 0")
        self.assertEqual(write_list(HARD, ()), "")

    def test_read_back(self):
        found = 0
        for net in nets():
            told = answer(net)
            lines = told[1] if told[0] == "list" else ()
            text = write_list(net, lines)
            self.assertEqual(read_list(net, text), lines)
            found += len(lines)
        self.assertGreater(found, 20)

    def test_lines_that_are_no_list(self):
        # Rows and reasons are enough: indices can be those of later lines, or of the line itself, and rules can take any number.
        lines = ((("bound", "land", "off", 3), ("joined", 2)), (("wait", "off", "fly", -4), ("sure", 1, 0)),
                 (("bound", "dawn", "dawn", 0), ("last", "off")), (("bound", "off", "land", FAR), ("late", 3, 3)),
                 (("bound", "off", "land", -FAR), ("most", "fly")))
        self.assertEqual(read_list(DAY, write_list(DAY, lines)), lines)

    def test_what_can_not_be_written(self):
        row, why = LINES[0]
        for lines in (None, [], "x", 5, {}, (None,), ((row,),), ([row, why],), ((row, why, 1),), ((why, row),), ((row, list(why)),),
                      ((row, ("bound", "x")),), ((row, ("joined",)),), ((row, ("joined", 1)),), ((row, ("joined", -1)),), ((row, ("joined", True)),),
                      ((row, ("joined", 0, 0, 0)),), ((row, ("told", 0)),), ((row, ("joined", "0")),), ((row, (["joined"], 0)),), ((row, ()),),
                      ((("bound", "board", "x", 1), why),), ((("bound", "board", "land", True), why),), ((("wait", "land", "fly", 1), why),),
                      ((row, ("joined", 0, None)),), ((row, None),)):
            self.raises(InvalidOperation, write_list, HARD, lines)
            self.raises(InvalidNet, write_list, None, lines)

    def test_each_form_with_one_thing_wrong(self):
        lines = ["line bound board land -5 bound walk", "line wait board fly 3 first 0", "line bound land land -1 joined 1 0",
                 "line bound land board 7 last off"]
        self.assertEqual(write_list(DAY, read_list(DAY, "\n".join(lines))), "\n".join(lines))
        for at, line in enumerate(lines):
            words = line.split(" ")
            wrong = [" ".join(words[:-1]) if len(words) != 8 else "line bound", " ".join([*words, "1", "2"]), " " + line, line + " ",
                     line.replace(" ", "  ", 1), "", "x", " ".join(words[:5]), " ".join(words[1:]), line.upper()]
            for place, word in enumerate(words):
                if word.lstrip("-").isdigit():
                    others = NO_INTEGERS
                elif place in (0, 1, 5):
                    others = ("", "x", "told", "Line", "lines", "waits", "dawn")
                else:
                    others = NO_NAMES
                wrong += [" ".join([*words[:place], other, *words[place + 1:]]) for other in others]
            for other in wrong:
                self.fails(at, read_list, DAY, "\n".join([*lines[:at], other, *lines[at + 1:]]))

    def test_reasons(self):
        for word, name in (("bound", "walk"), ("last", "off"), ("begin", "off"), ("most", "fly"), ("least", "fly")):
            self.assertEqual(read_list(DAY, f"line bound off land 3 {word} {name}"), ((("bound", "off", "land", 3), (word, name)),))
            self.raises(InvalidOperation, read_list, DAY, f"line bound off land 3 {word} dawn")
            self.raises(InvalidOperation, read_list, DAY, f"line bound off land 3 {word} x")
            self.fails(0, read_list, DAY, f"line bound off land 3 {word} 0")
            self.fails(0, read_list, DAY, f"line bound off land 3 {word} {name} {name}")
        for rule in RULES:
            for indices in ((0,), (0, 0)):
                text = " ".join(["line bound off land 3", rule, *map(str, indices)])
                self.assertEqual(read_list(DAY, text), ((("bound", "off", "land", 3), (rule, *indices)),))
            for text in (rule, rule + " a", rule + " 0 a", rule + " 0 0 0", rule + " 00"):
                self.fails(0, read_list, DAY, "line bound off land 3 " + text)
            for text in (rule + " 1", rule + " -1", rule + " 0 1"):
                self.raises(InvalidOperation, read_list, DAY, "line bound off land 3 " + text)

    def test_making_the_value(self):
        for text in ("line bound off x 3 bound walk", "line wait land fly 3 bound walk", "line wait off land 3 bound walk", "line wait off dawn 3 bound walk",
                     "line bound off fly 3 bound walk"):
            self.raises(InvalidOperation, read_list, DAY, text)
            self.fails(1, read_list, DAY, text + "\nx")
        self.assertEqual(read_list(DAY, ""), ())
        self.fails(0, read_list, DAY, "\n")
        self.fails(1, read_list, DAY, "line bound off land 3 bound walk\n")

    def test_arguments(self):
        for value in odd_values():
            if not isinstance(value, str):
                self.fails(None, read_list, DAY, value)
            if not isinstance(value, Net):
                self.raises(InvalidNet, read_list, value, None)


class TableTextTest(TextTest):
    def test_written(self):
        bounds, waits = {("off", "in"): 3, ("dawn", "off"): -2, ("in", "dawn"): 0}, {("on", "fly"): 7, ("dawn", "fly"): -1}
        net = Net({"in": 9, "on": 9, "off": 9}, {"fly": ("dawn", "in", 1, 2, 0)})
        text = "bound dawn off -2\nbound in dawn 0\nbound off in 3\nwait dawn fly -1\nwait on fly 7"
        self.assertEqual(write_table(net, bounds, waits), text)
        self.assertEqual(read_table(net, text), (bounds, waits))
        self.assertTrue(are_keys_ascending(read_table(net, text)))
        self.assertEqual(write_table(net, {}, {}), "")
        self.assertEqual(read_table(net, ""), ({}, {}))
        self.assertEqual(list(bounds), [("off", "in"), ("dawn", "off"), ("in", "dawn")])

    def test_read_back(self):
        for net in nets():
            table = closure(net) or ({("dawn", net.events[0]): FAR}, {})
            text = write_table(net, *table)
            self.assertEqual(read_table(net, text), table)
            self.assertEqual(write_table(net, *read_table(net, text)), text)

    def test_lines_repeated_or_in_another_sequence(self):
        bounds, waits = closure(DAY)
        lines = write_table(DAY, bounds, waits).split("\n")
        for at in range(1, len(lines)):
            self.fails(at, read_table, DAY, "\n".join([*lines[:at - 1], lines[at], lines[at - 1], *lines[at + 1:]]))
            self.fails(at, read_table, DAY, "\n".join([*lines[:at], lines[at - 1], *lines[at:]]))
            words = lines[at - 1].split(" ")
            self.fails(at, read_table, DAY, "\n".join([*lines[:at], " ".join([*words[:-1], "77"]), *lines[at:]]))
            self.fails(len(lines), read_table, DAY, "\n".join([*lines, lines[at]]))
        # Forms come ahead of the sequence, and the sequence ahead of the table.
        self.fails(2, read_table, DAY, "bound off land 1\nbound land off 1\nx")
        self.fails(1, read_table, DAY, "bound x y 1\nbound land off 1")
        self.fails(1, read_table, DAY, "wait off fly 1\nbound land off 1")

    def test_each_form_with_one_thing_wrong(self):
        lines = ["bound dawn off 3", "bound land off -4", "wait board fly 5"]
        for at, line in enumerate(lines):
            words = line.split(" ")
            wrong = [" ".join(words[:-1]), line + " 1", " " + line, line + " ", line.replace(" ", "  ", 1), "", "x", line.upper(), " ".join(words[1:])]
            for place, word in enumerate(words):
                others = NO_INTEGERS if place == 3 else NO_NAMES if place > 0 else ("", "bounds", "line", "Wait", "event")
                wrong += [" ".join([*words[:place], other, *words[place + 1:]]) for other in others]
            for other in wrong:
                self.fails(at, read_table, DAY, "\n".join([*lines[:at], other, *lines[at + 1:]]))

    def test_making_the_value(self):
        for text in ("bound x off 1", "bound off off 1", "wait land fly 1", "wait off x 1", "wait x fly 1", "bound off fly 1", "wait off dawn 1"):
            self.raises(InvalidTable, read_table, DAY, text)
        self.fails(0, read_table, DAY, "\n")
        self.fails(1, read_table, DAY, "bound dawn off 3\n")

    def test_arguments(self):
        for value in (None, (), [], 5, {1: 1}, {("off", "off"): 1}, {("off", "x"): 1}, {("off", "land"): True}, {("off", "land"): 10 ** 40}):
            self.raises(InvalidTable, write_table, DAY, value, {})
            self.raises(InvalidTable, write_table, DAY, {}, value if value != {("off", "land"): True} else {("off", "fly"): True})
            self.raises(InvalidNet, write_table, None, value, {})
        for value in odd_values():
            if not isinstance(value, str):
                self.fails(None, read_table, DAY, value)
            if not isinstance(value, Net):
                self.raises(InvalidNet, read_table, value, None)


class DayTextTest(TextTest):
    def test_written_and_read_back(self):
        for tick, seen, text in ((6, DAY_SEEN, DAY_TEXT), (None, (), "ahead"), (0, (), "at 0"), (3, ((0, "on"),), "at 3\nseen 0 on"),
                                 (7, ((0, "on"), (5, "in")), "at 7\nseen 0 on\nseen 5 in")):
            self.assertEqual(write_day(NET, tick, seen), text)
            self.assertEqual(read_day(NET, text), (tick, seen))
        far = 10 ** 34
        self.assertEqual(read_day(Net({"a": 5}), f"at {far}\nseen {far} a"), (far, ((far, "a"),)))

    def test_each_form_with_one_thing_wrong(self):
        lines = DAY_TEXT.split("\n")
        for at, line in enumerate(lines):
            words = line.split(" ")
            wrong = [" ".join(words[:-1]), line + " 1", " " + line, line + " ", line.replace(" ", "  ", 1), "", "x", line.upper(), "ahead 3", "at -"]
            for place, word in enumerate(words):
                others = NO_INTEGERS if place == 1 else NO_NAMES if place > 0 else ("", "seen at", "line", "At")
                wrong += [" ".join([*words[:place], other, *words[place + 1:]]) for other in others]
            for other in wrong:
                self.fails(at, read_day, NET, "\n".join([*lines[:at], other, *lines[at + 1:]]))

    def test_lines_repeated_or_in_another_sequence(self):
        for index, text in ((1, "seen 5 in\nat 6\nseen 6 on"), (2, "at 6\nseen 6 on\nseen 5 in"), (1, "at 6\nat 6\nseen 5 in"), (1, "at 6\nat 7"),
                            (1, "ahead\nat 3"), (1, "at 3\nahead"), (1, "ahead\nahead"), (2, "at 6\nseen 5 in\nseen 5 in"), (2, "at 6\nseen 5 in\nat 6"),
                            (2, "at 6\nseen 6 on\nseen 6 in"), (1, "seen 6 on\nseen 5 in"), (2, "at 9\nseen 6 on\nseen 5 on")):
            self.fails(index, read_day, NET, text)
        self.fails(0, read_day, NET, "seen 5 in")
        self.fails(0, read_day, NET, "seen 5 in\nseen 6 on")
        self.fails(0, read_day, NET, "seen 5 in\nseen 6 x")
        self.fails(0, read_day, NET, "")
        self.fails(0, read_day, NET, "\n")
        self.fails(1, read_day, NET, "at 6\n")
        # Forms come ahead of the sequence, the sequence ahead of the first line, and this ahead of the beginning.
        self.fails(2, read_day, NET, "seen 6 on\nseen 5 in\nx")
        self.fails(1, read_day, NET, "seen 6 on\nseen 5 in")
        self.fails(1, read_day, NET, "at -1\nat 3")

    def test_making_the_value(self):
        for text in ("at 3\nseen 4 on", "at 9", "at 3\nseen 3 x", "at 3\nseen 3 dawn", "at 3\nseen 1 in", "ahead\nseen 0 on", "at 3\nseen -1 on",
                     "at 6\nseen 5 on\nseen 6 on", "at 9\nseen 9 in"):
            self.raises(InvalidOperation, read_day, NET, text)
        for tick in (-1, 10 ** 34 + 1, FAR, -FAR):
            self.assertEqual(self.raises(InvalidNumber, read_day, NET, f"at {tick}\nseen 5 x").given, tick)

    def test_names_and_numbers_of_bounds_play_no_part(self):
        full = Net({"a": 5}, (), {f"deed.{index}": ("a", "dawn", 0) for index in range(210)})
        self.assertEqual(write_day(full, 3, ((2, "a"),)), "at 3\nseen 2 a")
        self.assertEqual(read_day(full, "at 3\nseen 2 a"), (3, ((2, "a"),)))

    def test_arguments(self):
        self.raises(InvalidNet, write_day, None, -1, None)
        self.assertEqual(self.raises(InvalidNumber, write_day, NET, -1, None).given, -1)
        self.raises(InvalidOperation, write_day, NET, 3, ((2, "x"),))
        self.raises(InvalidOperation, write_day, NET, None, ((2, "on"),))
        for value in odd_values():
            if not isinstance(value, str):
                self.fails(None, read_day, NET, value)
            if not isinstance(value, Net):
                self.raises(InvalidNet, read_day, value, None)


class IntegerTest(TextTest):
    def test_thousands_of_digits(self):
        for word in ("9" * 5000, "-" + "9" * 5000, "1" * 8000, "0" * 6000):
            self.fails(0, read_table, DAY, f"bound dawn off {word}")
            self.fails(0, read_day, DAY, f"at {word}")

    def test_forty_digits_and_forty_one(self):
        for number in (FAR, -FAR, 10 ** 39):
            self.assertEqual(read_table(DAY, f"bound dawn off {number}")[0], {("dawn", "off"): number})
            self.assertEqual(read_net(f"event a 3\nbound x dawn a {number}").bounds["x"][2], number)
        for number in (FAR + 1, -FAR - 1, 10 ** 59, 10 ** 500):
            self.fails(0, read_table, DAY, f"bound dawn off {number}")
            self.fails(1, read_net, f"event a 3\nbound x dawn a {number}")
            self.fails(0, read_day, DAY, f"at {number}")
            self.fails(0, read_list, DAY, f"line bound land off {number} bound walk")


if __name__ == "__main__":
    unittest.main()
