"""The names, parameters and places that the document lists."""

import inspect
import unittest
from importlib import import_module

FUNCTIONS = {
    "dawnway.base.names": {
        "is_integer": "value", "is_name": "value", "is_tick": "value", "is_names": "value", "is_seen": "value",
        "seen_until": "seen, tick", "tick_of": "seen, name",
    },
    "dawnway.net.nets": {"net_fault": "lasts, works, bounds"},
    "dawnway.net.times": {
        "times_paper": "net", "is_times_paper": "net, value", "are_times": "net, value", "has_times": "net",
        "earliest": "net", "latest": "net", "reach": "net, first, second", "course_of": "net, times",
    },
    "dawnway.net.least": {
        "least_net": "net", "is_least_net": "net, value", "let_same": "one, other", "parting_times": "one, other",
        "follows": "net, first, second, most", "idle_bounds": "net", "trimmed": "net", "free_net": "net",
    },
    "dawnway.play.plays": {
        "is_course": "net, value", "each_course": "net", "seen_at": "net, times, tick", "play": "net, way, course",
        "first_broken": "net, way, courses",
    },
    "dawnway.rule.rows": {
        "is_row": "net, value", "is_told": "net, value", "covers": "net, row, other", "made": "net, rule, row, *, other=None",
        "is_list": "net, value", "list_fault": "net, value", "used_lines": "net, lines",
    },
    "dawnway.rule.tables": {
        "is_form": "net, value", "table_fault": "net, bounds, waits", "is_closed": "net, value", "answer": "net",
        "is_answer": "net, value", "is_safe": "net", "closure": "net", "tightest": "net, first, second",
        "needed_wait": "net, event, work",
    },
    "dawnway.walk.walks": {
        "walk_way": "net, bounds, waits", "free_deeds": "net, bounds, waits, tick, seen", "walked": "net, bounds, waits, course",
    },
    "dawnway.walk.against": {
        "broken_lines": "net, lines, play", "followed": "net, lines, way, course, index",
        "course_against": "net, lines, way, *, course=None", "is_beaten": "net, way, value",
    },
    "dawnway.parts.ahead": {
        "firm_row": "net, word", "ahead_paper": "net", "is_ahead_paper": "net, value", "are_firm": "net, value",
        "earliest_times": "net", "windows": "net, times",
    },
    "dawnway.parts.days": {
        "is_deal": "day, value", "net_of": "day, deal", "torn_uses": "day, ticks", "clashes": "day, ticks", "deal_by": "day, ticks",
    },
    "dawnway.parts.deals": {
        "net_of_case": "day, case", "is_safe": "day, deal", "open_pairs": "day", "deal_paper": "day",
        "is_deal_paper": "day, value", "is_tree": "day, value, *, case=()", "safe_deals": "day",
    },
    "dawnway.parts.hands": {"crew_by": "answer, rows, *, walks=()"},
    "dawnway.parts.lanes": {"lane_by": "answer, rows, *, opens=0, pace=1"},
    "dawnway.parts.weather": {
        "with_closing": "day, name, place, begin, least, most, *, look=0, gap=0",
        "with_icing": "day, name, pad, after, off, least, most, hold, *, look=0", "longest_closing": "day, deal, name",
        "least_hold": "day, deal, name", "latest_look": "day, deal, name", "is_longest": "day, deal, name, value",
        "is_least_hold": "day, deal, name, value", "is_latest": "day, deal, name, value",
    },
    "dawnway.mends.lots": {
        "conflicts": "net, prices", "least_mends": "net, prices", "cheapest": "net, prices", "mend_paper": "net, prices",
        "is_mend_paper": "net, prices, value", "mended": "net, lot", "left_over": "net, prices, lot",
    },
    "dawnway.mends.spare": {
        "stretched": "net, works, many", "spare": "net, works", "spare_paper": "net, works", "is_spare_paper": "net, works, value",
        "full_box": "net, sequence", "box_paper": "net, box", "is_box_paper": "net, box, value", "gives": "net, lines",
    },
    "dawnway.live.day": {
        "is_beginning": "net, tick, value", "rest": "net, tick, seen", "verdict": "net, tick, seen, name",
        "verdicts": "net, tick, seen", "verdict_paper": "net, tick, seen, name", "is_verdict_paper": "net, tick, seen, name, value",
    },
    "dawnway.live.halves": {
        "are_halves": "one, other", "windows": "one, other", "whole": "one, other", "halves_paper": "one, other",
        "is_halves_paper": "one, other, value", "narrowed": "net, event, low, high", "guested": "net, work, low, high",
        "least_high": "net, event, low", "greatest_high": "net, work, low", "fitting": "one, other, event, low",
    },
    "dawnway.text.formats": {
        "write_net": "net", "read_net": "text", "write_list": "net, lines", "read_list": "net, text",
        "write_table": "net, bounds, waits", "read_table": "net, text", "write_day": "net, tick, seen", "read_day": "net, text",
    },
}
CLASSES = {
    ("dawnway.net.nets", "Net"): {
        "__init__": "self, lasts, works=(), bounds=()", "row": "self, word", "work_of": "self, event", "road": "self, event",
        "with_bounds": "self, bounds", "without": "self, *names", "with_lengths": "self, lengths",
        "with_looks": "self, looks", "with_lasts": "self, lasts", "renamed": "self, names", "__len__": "self",
        "__contains__": "self, value", "__eq__": "self, other", "__str__": "self",
    },
    ("dawnway.play.plays", "Play"): {
        "__init__": "self, net, course, rounds", "seen_to": "self, tick", "is_broken": "self, row", "__len__": "self",
        "__eq__": "self, other", "__str__": "self",
    },
    ("dawnway.walk.walks", "Walk"): {
        "__init__": "self, net, bounds, waits", "next": "self", "at": "self, tick, *ends", "__len__": "self",
        "__eq__": "self, other", "__str__": "self",
    },
    ("dawnway.parts.days", "Day"): {
        "__init__": "self, net, places, *, uses=(), gaps=(), promises=()", "uses_of": "self, place", "gap": "self, one, other",
        "with_net": "self, net", "__len__": "self", "__eq__": "self, other", "__str__": "self",
    },
    ("dawnway.parts.hands", "Crew"): {
        "__init__": "self, tasks, *, walks=()", "can_follow": "self, task, other", "walk": "self, place, other", "fewest": "self",
        "rosters": "self", "crowd": "self", "paper": "self, hands", "is_paper": "self, hands, value",
        "are_rosters": "self, value, *, longest=None, rest=0", "__len__": "self", "__eq__": "self, other", "__str__": "self",
    },
    ("dawnway.parts.belts", "Belt"): {
        "__init__": "self, flights, lots, *, room", "are_ready": "self, value", "window": "self, ready, lot",
        "excess": "self, ready, stretch", "worst": "self", "is_worst": "self, value", "paper": "self, ready",
        "is_paper": "self, ready, value", "is_plan": "self, ready, value", "least_paper": "self, ready",
        "is_least_paper": "self, ready, value", "worth_left": "self, ready", "least_room": "self", "__len__": "self",
        "__eq__": "self, other", "__str__": "self",
    },
    ("dawnway.parts.lanes", "Lane"): {
        "__init__": "self, rows, *, opens=0, pace=1", "most_in": "self, first, last", "is_coming": "self, value",
        "coming": "self, first, last", "left_by": "self, coming, desks", "longest_queue": "self, desks",
        "longest_wait": "self, desks", "fewest_desks": "self, *, queue=None, wait=None", "__len__": "self",
        "__eq__": "self, other", "__str__": "self",
    },
    ("dawnway.parts.runways", "Runway"): {
        "__init__": "self, moves, gaps", "ticks": "self, sequence", "end": "self, sequence", "least_end": "self", "best": "self",
        "each_sequence": "self, tick", "paper": "self, tick", "is_paper": "self, tick, value", "__len__": "self",
        "__eq__": "self, other", "__str__": "self",
    },
    ("dawnway.parts.connections", "Rules"): {
        "__init__": "self, works, deeds", "ticks": "self, course", "left": "self, course", "as_net": "self", "way": "self",
        "paper": "self, question", "is_paper": "self, question, value", "sure": "self", "with_wait": "self, deed, feeder, wait",
        "__len__": "self", "__eq__": "self, other", "__str__": "self",
    },
    ("dawnway.live.day", "Live"): {
        "__init__": "self, net, *, tick=None, seen=()", "later": "self, tick, *events", "on": "self, net", "verdict": "self, name",
        "verdicts": "self", "answer": "self", "__eq__": "self, other", "__str__": "self",
    },
    ("dawnway.text.shell", "Shell"): {"__init__": "self", "__call__": "self, line", "__eq__": "self, other", "__str__": "self"},
}
PROPERTIES = {
    ("dawnway.net.nets", "Net"): ("lasts", "works", "bounds", "events", "deeds", "ends", "horizon", "told"),
    ("dawnway.play.plays", "Play"): ("net", "course", "rounds", "times", "broken", "is_whole"),
    ("dawnway.walk.walks", "Walk"): ("net", "tick", "seen", "under_way"),
    ("dawnway.parts.days", "Day"): ("net", "places", "uses", "gaps", "promises"),
    ("dawnway.parts.hands", "Crew"): ("tasks", "walks"),
    ("dawnway.parts.belts", "Belt"): ("flights", "lots", "room", "total"),
    ("dawnway.parts.lanes", "Lane"): ("rows", "opens", "pace", "total"),
    ("dawnway.parts.runways", "Runway"): ("moves", "gaps", "names"),
    ("dawnway.parts.connections", "Rules"): ("works", "deeds", "events", "pairs"),
    ("dawnway.live.day", "Live"): ("net", "tick", "seen", "rest", "broken", "under_way"),
}
CONSTANTS = {
    "dawnway.base.names": {"DAWN": "dawn", "MAX_LETTERS": 12, "MAX_TICK": 10 ** 34, "MAX_LENGTH": 10 ** 30, "MAX_LOOK": 20},
    "dawnway.net.nets": {"MAX_EVENTS": 200, "MAX_WORKS": 60, "MAX_BOUNDS": 400},
    "dawnway.play.plays": {"MAX_ASKS": 2000},
    "dawnway.rule.rows": {"RULES": ("joined", "early", "first", "late", "both", "sure")},
    "dawnway.parts.days": {"MAX_PLACES": 20, "MAX_USES": 60},
    "dawnway.parts.deals": {"MAX_OPEN": 10},
    "dawnway.parts.hands": {"MAX_TASKS": 60},
    "dawnway.parts.belts": {"MAX_LOTS": 40, "MAX_BAGS": 400},
    "dawnway.parts.runways": {"MAX_MOVES": 12},
    "dawnway.parts.connections": {"MAX_CASES": 4096},
    "dawnway.mends.lots": {"MAX_PRICED": 8},
    "dawnway.live.day": {"MAX_LIVE": 200, "VERDICTS": ("sure", "holdable", "luck", "lost")},
}


class InterfaceTest(unittest.TestCase):
    def test_functions(self):
        for module, names in FUNCTIONS.items():
            for name, parameters in names.items():
                told = getattr(import_module(module), name)
                self.assertEqual(told.__module__, module)
                self.assertEqual(str(inspect.signature(told)), f"({parameters})", name)

    def test_constants(self):
        for module, constants in CONSTANTS.items():
            for name, value in constants.items():
                self.assertEqual(getattr(import_module(module), name), value, name)

    def test_methods_stand_in_their_class(self):
        for (module, name), methods in CLASSES.items():
            told = getattr(import_module(module), name)
            self.assertEqual(told.__module__, module)
            for method, parameters in methods.items():
                self.assertIn(method, vars(told))
                self.assertEqual(str(inspect.signature(vars(told)[method])), f"({parameters})", method)

    def test_properties_stand_in_their_class(self):
        for (module, name), properties in PROPERTIES.items():
            for told in properties:
                self.assertIsInstance(vars(getattr(import_module(module), name))[told], property, told)

    def test_errors(self):
        module = import_module("dawnway.errors")
        for name in ("DayError", "InvalidName", "InvalidNet", "InvalidRow", "InvalidTable", "InvalidCourse", "InvalidWay",
                     "InvalidDay", "InvalidDeal", "InvalidOperation", "InvalidCommand", "ParseError", "UnknownName",
                     "InvalidNumber", "TooMany", "Refused", "NothingToUndo"):
            self.assertEqual(getattr(module, name).__module__, "dawnway.errors")


if __name__ == "__main__":
    unittest.main()
