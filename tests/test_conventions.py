"""What holds for all functions: [0.1] to [0.5], [1.3]."""

import unittest
from itertools import combinations

from dawnway.base import names
from dawnway.errors import (
    InvalidCourse, InvalidDay, InvalidDeal, InvalidName, InvalidNet, InvalidNumber, InvalidOperation, InvalidRow,
    InvalidTable, InvalidWay, ParseError, UnknownName,
)
from dawnway.live import day as live_day
from dawnway.live import halves
from dawnway.live.day import Live
from dawnway.mends import lots, spare
from dawnway.net import least, nets, times
from dawnway.net.nets import Net
from dawnway.parts import ahead, days, deals, hands, lanes, weather
from dawnway.parts.belts import Belt
from dawnway.parts.connections import Rules
from dawnway.parts.days import Day
from dawnway.parts.hands import Crew
from dawnway.parts.lanes import Lane
from dawnway.parts.runways import Runway
from dawnway.play import plays
from dawnway.play.plays import Play
from dawnway.rule import rows, tables
from dawnway.text import formats
from dawnway.text.shell import Shell
from dawnway.walk import against, walks
from dawnway.walk.walks import Walk
from tests.helpers import (
    BARE, BELT, CHAIN, CREW, DAY, HARD, LANE, LINES, LIVE, PLACED, RULES, RUNWAY, STAND, are_keys_ascending, is_same,
    odd_values, shown,
)

NO_NET = (InvalidNet, None, [None, True, 5, "net", (), {}, [DAY], {"a": 1}, Play(BARE, {}, ())])
NO_PLACE = (UnknownName, "wanted", ["x", "fly", "", None, True, 0, ["land"], ("land",), {}, 10 ** 59, DAY])
NO_WORK = (UnknownName, "wanted", ["x", "land", "dawn", None, True, 0, ["fly"], ("fly",), {}, DAY])
NO_TICK = (InvalidNumber, "given", [-1, 10 ** 34 + 1, True, False, None, "1", (), [1], {1: 1}, 10 ** 59, DAY])
NO_INTEGER = (InvalidNumber, "given", [True, False, None, "1", (1,), [1], {}, 10 ** 40, -(10 ** 40), 10 ** 59, DAY])
NO_SEEN = (InvalidOperation, None, [None, [], "a", 5, ((1, "b"), (0, "a")), ((0, "a"), (1, "a")), ((True, "a"),), {}, DAY])
NO_NAME = (InvalidName, None, [None, "", "A", "dawn", 5, ["a"], True, "a" * 13, {}, DAY])
NO_ROW = (InvalidRow, None, [None, (), "x", 5, ("bound", "land", "x", 1), ("bound", "land", "off", True),
                             ("wait", "land", "fly", 1), ["bound", "land", "off", 1], {}, DAY])
NO_RULE = (InvalidOperation, None, [None, "", "told", 5, True, ["joined"], {}, DAY])
NO_COURSE = (InvalidCourse, None, [None, (), {}, {"fly": True}, {"fly": 9}, {"fly": 31}, {"x": 17}, {"fly": 17, "x": 1}, 5, DAY])
NO_WAY = (InvalidWay, None, [None, True, 5, "way", (), [], {}])
NO_LIST = (InvalidOperation, None, [None, (), [], "x", LINES[:2], LINES[::-1], (None,), 5, {}, DAY])
NO_BOUNDS = (InvalidTable, None, [None, (), [], {1: 1}, {("land", "land"): 1}, {("land", "off"): True}, {("fly", "off"): 1}, DAY])
NO_WAITS = (InvalidTable, None, [None, (), [], {1: 1}, {("land", "fly"): 1}, {("off", "fly"): True}, {("off", "x"): 1}, DAY])
NOT_BARE = (InvalidOperation, None, [DAY, HARD, CHAIN])
NO_TIMES = (InvalidOperation, None, [None, (), {"dawn": 1}, {"x": 1}, {"land": True}, {"land": -1}, {1: 1}, 5, DAY])
NO_DICT = (InvalidOperation, None, [None, (), [], "x", 5, True, DAY])
NO_TABLE = (InvalidTable, None, [None, (), [], "x", 5, {1: 1}, {("land", "land"): 1}, {("land", "off"): True}, {}, DAY])
NO_PLAY = (InvalidOperation, None, [None, (), {}, "play", 5, Play(BARE, {}, ()), DAY])
NO_INDEX = (InvalidNumber, "given", [-1, 3, 10 ** 59, True, None, "0", (0,), [0], {}, DAY])
NO_WORD = (InvalidOperation, None, [None, (), "soon", ("bound", "x"), ["bound", "soon"], {}, 5, DAY])
NO_DEED_TIMES = (InvalidOperation, None, [None, (), {}, {"board": 3}, {"board": 3, "off": True}, {"board": 3, "off": 4, "land": 5}, 5, DAY])
NO_DAY = (InvalidDay, None, [None, True, 5, "day", (), {}, [PLACED], {"a": 1}, DAY, CREW])
NO_DEAL = (InvalidDeal, None, [None, (), {}, "x", 5, {"s1": ("a",)}, {"s1": ["a", "b"]}, {"s1": ("a", "b"), "x": ()}, DAY])
NO_EVENT_TICKS = (InvalidOperation, None, [None, (), "x", 5, {"dawn": 0}, {"ina": True}, {"x": 1}, {1: 1}, DAY])
NO_CASE = (InvalidOperation, None, [None, [], "x", 5, (("a", "a"),), (("a", "x"),), ("a", "b"), (["a", "b"],), {}, DAY])
NO_PLACES = (InvalidDay, None, [None, [], "s1", 5, ("s1", "s1"), ("s1", 1), {}, DAY])
NO_DAY_DICT = (InvalidDay, None, [None, [], "x", 5, {1: 1}, {"a": None}, DAY])
NO_TASKS = (InvalidDay, None, [None, [], "x", 5, ((4, 4, "a"),), ((0, 4),), ((True, 4, "a"),), {}, DAY])
NO_NUMBER = (InvalidNumber, "given", [-1, True, "1", (1,), [1], {}, 10 ** 40, 10 ** 59, DAY])
NO_NAMED = (UnknownName, "wanted", ["x", "", None, True, 0, ["a"], ("a",), {}, 10 ** 59, DAY])
NO_TASK = (InvalidNumber, "given", [-1, 4, True, None, "0", (0,), [0], {}, 10 ** 59, DAY])
NO_ANSWER = (InvalidTable, None, [None, (), {}, "x", 5, ("list", ()), ("table", {}, {}, 1), ["table", {}, {}], ("table", {1: 1}, {}), DAY])
NO_READY = (InvalidOperation, None, [None, (), {}, "x", 5, {"x": 1}, {"x": True, "y": 3}, {"x": 1, "y": 4}, {1: 1}, DAY])
NO_STRETCH = (InvalidOperation, None, [None, (), "x", 5, (4, 3), (1, True), [1, 2], (-1, 2), (1, 2, 3), {}, DAY])
NO_DESKS = (InvalidNumber, "given", [-1, 10 ** 9 + 1, True, None, "1", (1,), [1], {}, 10 ** 59, DAY])
NO_ROOM = (InvalidNumber, "given", [0, -1, 401, True, None, "1", (1,), [1], {}, 10 ** 59, DAY])
NO_COMING = (InvalidOperation, None, [None, (), {}, "x", 5, ((0, 10),), ((0, 6), (4, True)), [(0, 6), (4, 4)], DAY])
NO_MOVES = (InvalidDay, None, [None, (), "x", 5, {1: 1}, {"a": ("jet", 2, 1)}, {"a": ["jet", 0, 1]}, {"dawn": ("jet", 0, 1)}, DAY])
NO_GAPS = (InvalidDay, None, [None, (), "x", 5, {}, {1: 1}, {("jet", "jet"): 1}, {("jet", "jet"): True}, DAY])
NO_FEEDING = (InvalidDay, None, [None, (), "x", 5, {1: 1}, {"go": 8}, {"go": (8, (("x", 1, 1),))}, {"in": (8, ())}, DAY])
NO_SEQUENCE = (InvalidOperation, None, [None, [], "a", 5, (), ("a", "b"), ("a", "b", "b"), ("a", "b", 1), {}, DAY])
NO_OWN_NAME = (InvalidName, None, [None, "", "use", "gap", "case", "x" * 11, "A", "dawn", 5, ["a"], {}, DAY])
NO_LENGTH = (InvalidNumber, "given", [0, -1, 10 ** 30 + 1, True, None, "1", (1,), [1], {}, 10 ** 59, DAY])
NO_FAR = (InvalidNumber, "given", [-1, 10 ** 30 + 1, True, None, "1", (1,), [1], {}, 10 ** 59, DAY])
NO_LOOK = (InvalidNumber, "given", [-1, 21, True, None, "1", (1,), [1], {}, 10 ** 59, DAY])
NO_USE = (UnknownName, "wanted", ["a", "x", "", None, True, 0, ["st"], ("st",), {}, 10 ** 59, DAY])
NO_RULE_COURSE = (InvalidCourse, None, [None, (), {}, {"fly": 3}, {"fly": True, "hop": 1}, {"fly": 3, "hop": 13}, 5, DAY])
NO_QUESTION = (InvalidOperation, None, [None, (), "left", ("left", "in"), ("left", "go", "in"), ("seen", "in", "go"), ["left", "in", "go"], {}, 5])
NO_WORK_TUPLE = (InvalidOperation, None, [None, [], (), "fly", 5, ("x",), ("fly", "fly"), ("land",), (1,), {"fly": 1}, DAY])
NO_ALL_WORKS = (InvalidOperation, None, [None, [], (), "fly", 5, ("x",), ("fly", "fly"), ("land",), (1,), {"fly": 1}, DAY])
NO_BOX = (InvalidOperation, None, [None, (), {}, "x", 5, {"x": 1}, {"fly": True}, {"fly": -1}, {"fly": 1, "x": 1}, {1: 1}, DAY])
NO_PRICES = (InvalidOperation, None, [None, (), [], 5, {"x": 1}, {"walk": -1}, {"walk": True}, {1: 1}, {"land": 1}, DAY])
NO_LOT = (InvalidOperation, None, [None, [], "walk", 5, ("x",), ("walk", "walk"), ("walk", 1), {}, DAY])
NO_UPTO = (InvalidNumber, "given", [-1, 10 ** 34 + 1, True, False, "1", (), [1], {1: 1}, 10 ** 59, DAY])
NO_BEGINNING = (InvalidOperation, None, [None, [], "a", 5, ((12, "x"),), ((13, "land"),), ((True, "land"),), ((5, "land"),), {}, DAY])
NO_BOUND = (UnknownName, "wanted", ["x", "fly", "land", "", None, True, 0, ["walk"], ("walk",), {}, 10 ** 59, DAY])
NO_EVENT = (UnknownName, "wanted", ["x", "fly", "dawn", "", None, True, 0, ["land"], ("land",), {}, 10 ** 59, DAY])
NO_GUEST = (UnknownName, "wanted", ["x", "go", "dawn", "", None, True, 0, ["on"], ("on",), {}, 10 ** 59, DAY])
NO_COMMON = (UnknownName, "wanted", ["x", "go", "in", "dawn", "", None, True, 0, ["on"], ("on",), {}, 10 ** 59, DAY])
NO_HALF = (InvalidOperation, None, [DAY, HARD])
NO_WRITTEN = (InvalidOperation, None, [None, [], "x", 5, (None,), ((),), LINES[2:], ((LINES[0][0], ("joined", 1)),), {}, DAY])
NO_LINE = (ParseError, None, [None, 5, True, (), ["line"], {}, "x", "  ", "line", "bound", DAY])
FREE = None


def still(tick, seen):
    """A way that does nothing."""
    return (), None


BOUNDS, WAITS = tables.closure(DAY)
SEEN = ((0, "on"), (3, "off"))
EARLY = {"board": 15, "land": 10, "off": 25}
NEAR = {"ina": 0, "inb": 5, "outa": 3, "outb": 7}
DEAL = {"s1": ("a", "b")}
ANSWER = ("table", BOUNDS, WAITS)
READY = {"x": 2, "y": 3}
WALK = Walk(DAY, BOUNDS, WAITS)
BUSY = plays.play(HARD, still, {"fly": 17})
STORMY = weather.with_icing(weather.with_closing(Day(STAND, ("pad", "s1"), uses=PLACED.uses), "st", "s1", 9, 2, 4),
                            "ice", "pad", "ina", "outa", 1, 2, 5)
STORM_DEAL = {"pad": ("ice",), "s1": ("a", "st", "b")}
LAND = ((12, "land"),)
FIELD = Net({"in": 9, "on": 12}, {"fly": ("dawn", "in", 2, 5, 0)},
            {"taxi": ("in", "on", 3), "lane": ("on", "in", -2), "by": ("dawn", "on", 9), "from": ("on", "dawn", -4)})
HALL = Net({"on": 12, "go": 20}, {"on": ("dawn", "on", 4, 9, 0)}, {"call": ("on", "go", 4), "walk": ("go", "on", -1)})


def shelled(line):
    """What a shell with a net answers."""
    shell = Shell()
    shell("event a 3")
    return shell(line)


# Each call: the function, right arguments, and for each argument the errors of wrong ones, in their order.
CALLS = [
    (names.seen_until, (SEEN, 2), [[NO_SEEN], [NO_TICK]]),
    (names.tick_of, (SEEN, "on"), [[NO_SEEN], [NO_NAME]]),
    (times.times_paper, (DAY,), [[NO_NET]]),
    (times.is_times_paper, (DAY, ("times", EARLY)), [[NO_NET], FREE]),
    (times.are_times, (DAY, EARLY), [[NO_NET], FREE]),
    (times.has_times, (DAY,), [[NO_NET]]),
    (times.earliest, (DAY,), [[NO_NET]]),
    (times.latest, (DAY,), [[NO_NET]]),
    (times.reach, (DAY, "land", "board"), [[NO_NET], [NO_PLACE], [NO_PLACE]]),
    (times.course_of, (DAY, EARLY), [[NO_NET], [NO_DICT]]),
    (least.least_net, (BARE,), [[NO_NET, NOT_BARE]]),
    (least.is_least_net, (BARE, {}), [[NO_NET, NOT_BARE], FREE]),
    (least.let_same, (BARE, BARE), [[NO_NET, NOT_BARE], [NO_NET, NOT_BARE]]),
    (least.parting_times, (BARE, BARE.without("ca")), [[NO_NET, NOT_BARE], [NO_NET, NOT_BARE]]),
    (least.follows, (BARE, "a", "b", 2), [[NO_NET, NOT_BARE], [NO_PLACE], [NO_PLACE], [NO_INTEGER]]),
    (least.idle_bounds, (BARE,), [[NO_NET, NOT_BARE]]),
    (least.trimmed, (BARE,), [[NO_NET, NOT_BARE]]),
    (least.free_net, (DAY,), [[NO_NET]]),
    (plays.is_course, (DAY, {"fly": 17}), [[NO_NET], FREE]),
    (lambda net: list(plays.each_course(net)), (DAY,), [[NO_NET]]),
    (plays.seen_at, (DAY, {"off": 3, "land": 2}, 5), [[NO_NET], [NO_TIMES], [NO_TICK]]),
    (plays.play, (DAY, still, {"fly": 17}), [[NO_NET], [NO_WAY], [NO_COURSE]]),
    (plays.first_broken, (DAY, still, ({"fly": 17},)),
     [[NO_NET], [NO_WAY], [(InvalidCourse, None, [None, {}, [], ({},), ({"fly": 9},), 5])]]),
    (Play, (DAY, {"fly": 17}, ((17, ("land",), ()),)), [[NO_NET], [NO_COURSE], [NO_DICT]]),
    (rows.is_row, (DAY, ("bound", "land", "off", 1)), [[NO_NET], FREE]),
    (rows.is_told, (DAY, ("bound", "walk")), [[NO_NET], FREE]),
    (rows.covers, (DAY, ("bound", "land", "off", 1), ("bound", "land", "off", 2)), [[NO_NET], [NO_ROW], [NO_ROW]]),
    (lambda net, rule, row, other: rows.made(net, rule, row, other=other),
     (DAY, "joined", ("bound", "land", "off", 1), ("bound", "off", "board", 2)), [[NO_NET], [NO_RULE], [NO_ROW], [NO_ROW]]),
    (lambda net, rule, row, other: rows.made(net, rule, row, other=other),
     (DAY, "first", ("bound", "board", "land", 1), None),
     [[NO_NET], [NO_RULE], [NO_ROW], [(InvalidRow, None, [("bound", "off", "board", 2), (), 5, False, {}])]]),
    (rows.is_list, (HARD, LINES), [[NO_NET], FREE]),
    (rows.list_fault, (HARD, LINES), [[NO_NET], FREE]),
    (rows.used_lines, (HARD, LINES), [[NO_NET], [NO_LIST]]),
    (tables.is_form, (DAY, (BOUNDS, WAITS)), [[NO_NET], FREE]),
    (tables.table_fault, (DAY, BOUNDS, WAITS), [[NO_NET], [NO_BOUNDS], [NO_WAITS]]),
    (tables.is_closed, (DAY, (BOUNDS, WAITS)), [[NO_NET], FREE]),
    (tables.answer, (DAY,), [[NO_NET]]),
    (tables.answer, (HARD,), [[NO_NET]]),
    (tables.is_answer, (DAY, ("table", BOUNDS, WAITS)), [[NO_NET], FREE]),
    (tables.is_safe, (DAY,), [[NO_NET]]),
    (tables.closure, (DAY,), [[NO_NET]]),
    (tables.tightest, (DAY, "land", "off"), [[NO_NET], [NO_PLACE], [NO_PLACE]]),
    (tables.needed_wait, (DAY, "off", "fly"), [[NO_NET], [NO_PLACE], [NO_WORK]]),
    (lambda net, bounds, waits: walks.walk_way(net, bounds, waits)(3, ()), (DAY, BOUNDS, WAITS), [[NO_NET], [NO_TABLE], [NO_TABLE]]),
    (walks.free_deeds, (DAY, BOUNDS, WAITS, 17, ((12, "land"),)), [[NO_NET], [NO_TABLE], [NO_TABLE], [NO_TICK], [NO_SEEN]]),
    (walks.walked, (DAY, BOUNDS, WAITS, {"fly": 17}), [[NO_NET], [NO_TABLE], [NO_TABLE], [NO_COURSE]]),
    (Walk, (DAY, BOUNDS, WAITS), [[NO_NET], [NO_TABLE], [NO_TABLE]]),
    (WALK.next, (), []),
    (WALK.at, (12, "land"), [[NO_TICK], [(InvalidOperation, None, [None, "off", "x", ["land"], ("land",), {}, 5, DAY])]]),
    (against.broken_lines, (HARD, LINES, BUSY), [[NO_NET], [NO_LIST], [NO_PLAY]]),
    (against.followed, (HARD, LINES, still, {"fly": 17}, 2), [[NO_NET], [NO_LIST], [NO_WAY], [NO_COURSE], [NO_INDEX]]),
    (lambda net, lines, way, course: against.course_against(net, lines, way, course=course), (HARD, LINES, still, {"fly": 17}),
     [[NO_NET], [NO_LIST], [NO_WAY], [(InvalidCourse, None, [(), {}, {"fly": True}, {"fly": 9}, 5, DAY])]]),
    (against.is_beaten, (HARD, still, ({"fly": 17}, ("last", "off"))), [[NO_NET], [NO_WAY], FREE]),
    (ahead.firm_row, (DAY, ("bound", "walk")), [[NO_NET], [NO_WORD]]),
    (ahead.ahead_paper, (DAY,), [[NO_NET]]),
    (ahead.is_ahead_paper, (DAY, ("times", {"board": 35, "off": 45})), [[NO_NET], FREE]),
    (ahead.are_firm, (DAY, {"board": 35, "off": 45}), [[NO_NET], FREE]),
    (ahead.earliest_times, (DAY.without("crew"),), [[NO_NET]]),
    (ahead.windows, (DAY, {"board": 35, "off": 45}), [[NO_NET], [NO_DEED_TIMES]]),
    (lambda net, places, uses, gaps, promises: Day(net, places, uses=uses, gaps=gaps, promises=promises),
     (STAND, ("s1",), PLACED.uses, PLACED.gaps, {"staya": 3, "stayb": 4}),
     [[NO_NET], [NO_PLACES], [NO_DAY_DICT], [NO_DAY_DICT], [NO_DAY_DICT]]),
    (PLACED.uses_of, ("s1",), [[NO_NAMED]]),
    (PLACED.gap, ("a", "b"), [[NO_NAMED], [NO_NAMED]]),
    (PLACED.with_net, (STAND,), [[NO_NET]]),
    (days.is_deal, (PLACED, DEAL), [[NO_DAY], FREE]),
    (days.net_of, (PLACED, DEAL), [[NO_DAY], [NO_DEAL]]),
    (days.torn_uses, (PLACED, {"outa": 3}), [[NO_DAY], [NO_EVENT_TICKS]]),
    (days.clashes, (PLACED, NEAR), [[NO_DAY], [NO_EVENT_TICKS]]),
    (days.deal_by, (PLACED, NEAR), [[NO_DAY], [NO_EVENT_TICKS]]),
    (deals.net_of_case, (PLACED, (("a", "b"),)), [[NO_DAY], [NO_CASE]]),
    (deals.is_safe, (PLACED, DEAL), [[NO_DAY], [NO_DEAL]]),
    (deals.open_pairs, (PLACED,), [[NO_DAY]]),
    (deals.deal_paper, (PLACED,), [[NO_DAY]]),
    (deals.is_deal_paper, (PLACED, deals.deal_paper(PLACED)), [[NO_DAY], FREE]),
    (lambda day, value, case: deals.is_tree(day, value, case=case), (PLACED, ("leaf", ()), (("a", "b"),)), [[NO_DAY], FREE, [NO_CASE]]),
    (lambda day: list(deals.safe_deals(day)), (PLACED,), [[NO_DAY]]),
    (lambda tasks, walks: Crew(tasks, walks=walks), (CREW.tasks, CREW.walks), [[NO_TASKS], [NO_DAY_DICT]]),
    (CREW.can_follow, (1, 0), [[NO_TASK], [NO_TASK]]),
    (CREW.walk, ("a", "b"), [[NO_NAMED], [NO_NAMED]]),
    (CREW.fewest, (), []),
    (CREW.rosters, (), []),
    (CREW.crowd, (), []),
    (CREW.paper, (1,), [[NO_NUMBER]]),
    (CREW.is_paper, (1, ("crowd", (1, 2))), [[NO_NUMBER], FREE]),
    (lambda value, longest, rest: CREW.are_rosters(value, longest=longest, rest=rest), (((0, 1), (2, 3)), 9, 1), [FREE, [NO_NUMBER], [NO_NUMBER]]),
    (lambda answer, rows, walks: hands.crew_by(answer, rows, walks=walks), (ANSWER, (("land", "off", "g"), ("off", "land", "h")), {("g", "h"): 2}),
     [[NO_ANSWER], [NO_TASKS], [NO_DAY_DICT]]),
    (lambda flights, lots, room: Belt(flights, lots, room=room), (BELT.flights, BELT.lots, 2),
     [[(InvalidDay, None, [None, (), "x", 5, {1: 1}, {"x": (2, 1)}, DAY])], [NO_TASKS], [NO_ROOM]]),
    (BELT.are_ready, (READY,), [FREE]),
    (BELT.window, (READY, 1), [[NO_READY], [NO_TASK]]),
    (BELT.excess, (READY, (3, 4)), [[NO_READY], [NO_STRETCH]]),
    (BELT.worst, (), []),
    (BELT.is_worst, ((1, READY, (3, 4)),), [FREE]),
    (BELT.paper, (READY,), [[NO_READY]]),
    (BELT.is_paper, (READY, ("over", (3, 4))), [[NO_READY], FREE]),
    (BELT.is_plan, (READY, ((3, 0, 1),)), [[NO_READY], FREE]),
    (BELT.least_paper, (READY,), [[NO_READY]]),
    (BELT.is_least_paper, (READY, BELT.least_paper(READY)), [[NO_READY], FREE]),
    (BELT.worth_left, (READY,), [[NO_READY]]),
    (BELT.least_room, (), []),
    (lambda rows, opens, pace: Lane(rows, opens=opens, pace=pace), (LANE.rows, 2, 1),
     [[NO_TASKS], [NO_TICK], [(InvalidNumber, "given", [0, -1, True, None, "1", (1,), [1], 10 ** 59, DAY])]]),
    (LANE.most_in, (3, 4), [[NO_TICK], [NO_TICK]]),
    (LANE.is_coming, (((0, 6), (4, 4)),), [FREE]),
    (LANE.coming, (3, 4), [[NO_TICK], [NO_TICK]]),
    (LANE.left_by, (((0, 6), (4, 4)), 2), [[NO_COMING], [NO_DESKS]]),
    (LANE.longest_queue, (2,), [[NO_DESKS]]),
    (LANE.longest_wait, (2,), [[NO_DESKS]]),
    (lambda queue, wait: LANE.fewest_desks(queue=queue, wait=wait), (7, 2), [[NO_NUMBER], [NO_NUMBER]]),
    (lambda answer, rows, opens, pace: lanes.lane_by(answer, rows, opens=opens, pace=pace), (ANSWER, (("land", 0, 5, 7),), 2, 1),
     [[NO_ANSWER], [NO_TASKS], [NO_TICK], [(InvalidNumber, "given", [0, -1, True, None, "1", (1,), [1], 10 ** 59, DAY])]]),
    (Runway, (RUNWAY.moves, RUNWAY.gaps), [[NO_MOVES], [NO_GAPS]]),
    (RUNWAY.ticks, (("b", "a", "c"),), [[NO_SEQUENCE]]),
    (RUNWAY.end, (("b", "a", "c"),), [[NO_SEQUENCE]]),
    (RUNWAY.least_end, (), []),
    (RUNWAY.best, (), []),
    (lambda tick: list(RUNWAY.each_sequence(tick)), (3,), [[NO_TICK]]),
    (RUNWAY.paper, (2,), [[NO_TICK]]),
    (RUNWAY.is_paper, (2, RUNWAY.paper(2)), [[NO_TICK], FREE]),
    (lambda day, name, place, begin, least, most, look, gap: weather.with_closing(day, name, place, begin, least, most, look=look, gap=gap),
     (PLACED, "st", "s1", 5, 3, 8, 2, 1), [[NO_DAY], [NO_OWN_NAME], [NO_NAMED], [NO_FAR], [NO_LENGTH], [NO_LENGTH], [NO_LOOK], [NO_FAR]]),
    (lambda day, name, pad, after, off, least, most, hold, look: weather.with_icing(day, name, pad, after, off, least, most, hold, look=look),
     (STORMY, "cold", "pad", "ina", "outa", 3, 8, 6, 2),
     [[NO_DAY], [NO_OWN_NAME], [NO_NAMED], [NO_NAMED], [NO_NAMED], [NO_LENGTH], [NO_LENGTH], [NO_FAR], [NO_LOOK]]),
    (weather.longest_closing, (STORMY, STORM_DEAL, "st"), [[NO_DAY], [NO_DEAL], [NO_USE]]),
    (weather.least_hold, (STORMY, STORM_DEAL, "ice"), [[NO_DAY], [NO_DEAL], [NO_USE]]),
    (weather.latest_look, (STORMY, STORM_DEAL, "st"), [[NO_DAY], [NO_DEAL], [NO_USE]]),
    (weather.is_longest, (STORMY, STORM_DEAL, "st", weather.longest_closing(STORMY, STORM_DEAL, "st")), [[NO_DAY], [NO_DEAL], [NO_USE], FREE]),
    (weather.is_least_hold, (STORMY, STORM_DEAL, "ice", weather.least_hold(STORMY, STORM_DEAL, "ice")), [[NO_DAY], [NO_DEAL], [NO_USE], FREE]),
    (weather.is_latest, (STORMY, STORM_DEAL, "st", weather.latest_look(STORMY, STORM_DEAL, "st")), [[NO_DAY], [NO_DEAL], [NO_USE], FREE]),
    (Rules, (RULES.works, RULES.deeds), [[NO_MOVES], [NO_FEEDING]]),
    (RULES.ticks, ({"hop": 1, "fly": 9},), [[NO_RULE_COURSE]]),
    (RULES.left, ({"hop": 1, "fly": 9},), [[NO_RULE_COURSE]]),
    (RULES.as_net, (), []),
    (lambda tick, seen: RULES.way()(tick, seen), (8, ((3, "near"),)), []),
    (RULES.paper, (("left", "in", "go"),), [[NO_QUESTION]]),
    (RULES.is_paper, (("left", "in", "go"), ("course", {"fly": 9, "hop": 1})), [[NO_QUESTION], FREE]),
    (RULES.sure, (), []),
    (RULES.with_wait, ("go", "in", 3), [[NO_NAMED], [NO_NAMED], [NO_TICK]]),
    (lots.conflicts, (DAY, {"walk": 3, "crew": 1}), [[NO_NET], [NO_PRICES]]),
    (lots.least_mends, (HARD, {"walk": 3, "soon": 1}), [[NO_NET], [NO_PRICES]]),
    (lots.cheapest, (HARD, {"walk": 3, "soon": 1}), [[NO_NET], [NO_PRICES]]),
    (lots.mend_paper, (HARD, {"walk": 3, "soon": 1}), [[NO_NET], [NO_PRICES]]),
    (lots.is_mend_paper, (HARD, {"walk": 3, "soon": 1}, lots.mend_paper(HARD, {"walk": 3, "soon": 1})), [[NO_NET], [NO_PRICES], FREE]),
    (lots.mended, (DAY, ("crew", "walk")), [[NO_NET], [NO_LOT]]),
    (lots.left_over, (HARD, {"walk": 3, "soon": 1}, ("walk",)), [[NO_NET], [NO_PRICES], [NO_LOT]]),
    (spare.stretched, (DAY, ("fly",), 3), [[NO_NET], [NO_WORK_TUPLE], [NO_TICK]]),
    (spare.spare, (DAY, ("fly",)), [[NO_NET], [NO_WORK_TUPLE]]),
    (spare.spare_paper, (DAY, ("fly",)), [[NO_NET], [NO_WORK_TUPLE]]),
    (spare.is_spare_paper, (DAY, ("fly",), spare.spare_paper(DAY, ("fly",))), [[NO_NET], [NO_WORK_TUPLE], FREE]),
    (spare.full_box, (DAY, ("fly",)), [[NO_NET], [NO_ALL_WORKS]]),
    (spare.box_paper, (DAY, {"fly": 3}), [[NO_NET], [NO_BOX]]),
    (spare.is_box_paper, (DAY, {"fly": 3}, spare.box_paper(DAY, {"fly": 3})), [[NO_NET], [NO_BOX], FREE]),
    (spare.gives, (HARD, LINES), [[NO_NET], [(InvalidTable, None, NO_LIST[2])]]),
    (live_day.is_beginning, (DAY, 12, LAND), [[NO_NET], [NO_UPTO], FREE]),
    (live_day.rest, (DAY, 12, LAND), [[NO_NET], [NO_UPTO], [NO_BEGINNING]]),
    (live_day.verdict, (DAY, 12, LAND, "walk"), [[NO_NET], [NO_UPTO], [NO_BEGINNING], [NO_BOUND]]),
    (live_day.verdicts, (DAY, 12, LAND), [[NO_NET], [NO_UPTO], [NO_BEGINNING]]),
    (live_day.verdict_paper, (DAY, 12, LAND, "walk"), [[NO_NET], [NO_UPTO], [NO_BEGINNING], [NO_BOUND]]),
    (live_day.is_verdict_paper, (DAY, 12, LAND, "walk", live_day.verdict_paper(DAY, 12, LAND, "walk")),
     [[NO_NET], [NO_UPTO], [NO_BEGINNING], [NO_BOUND], FREE]),
    (lambda net, tick, seen: Live(net, tick=tick, seen=seen), (DAY, 12, LAND), [[NO_NET], [NO_UPTO], [NO_BEGINNING]]),
    (LIVE.later, (17, "board"), [[NO_TICK], [(InvalidOperation, None, [None, "land", "x", ["off"], ("off",), {}, 5, DAY])]]),
    (LIVE.on, (HARD,), [[NO_NET]]),
    (LIVE.verdict, ("walk",), [[NO_BOUND]]),
    (LIVE.verdicts, (), []),
    (LIVE.answer, (), []),
    (halves.are_halves, (FIELD, HALL), [[NO_NET], [NO_NET]]),
    (halves.windows, (FIELD, HALL), [[NO_NET], [NO_NET]]),
    (halves.whole, (FIELD, HALL), [[NO_NET], [NO_NET]]),
    (halves.halves_paper, (FIELD, HALL), [[NO_NET], [NO_NET]]),
    (halves.is_halves_paper, (FIELD, HALL, halves.halves_paper(FIELD, HALL)), [[NO_NET], [NO_NET], FREE]),
    (halves.narrowed, (FIELD, "on", 4, 9), [[NO_NET], [NO_EVENT], [NO_TICK], [NO_TICK]]),
    (halves.guested, (HALL, "on", 4, 9), [[NO_NET], [NO_GUEST], [NO_LENGTH], [NO_LENGTH]]),
    (halves.least_high, (FIELD, "on", 4), [[NO_NET], [NO_EVENT], [NO_TICK]]),
    (halves.greatest_high, (HALL, "on", 4), [[NO_NET], [NO_GUEST], [NO_LENGTH]]),
    (halves.fitting, (FIELD, HALL, "on", 4), [[NO_NET], [NO_NET], [NO_COMMON], [NO_TICK]]),
    (formats.write_net, (DAY,), [[NO_NET]]),
    (formats.read_net, ("event a 3",), [[NO_LINE]]),
    (formats.write_list, (HARD, LINES), [[NO_NET], [NO_WRITTEN]]),
    (formats.read_list, (HARD, formats.write_list(HARD, LINES)), [[NO_NET], [NO_LINE]]),
    (formats.write_table, (DAY, BOUNDS, WAITS), [[NO_NET], [NO_BOUNDS], [NO_WAITS]]),
    (formats.read_table, (DAY, formats.write_table(DAY, BOUNDS, WAITS)), [[NO_NET], [NO_LINE]]),
    (formats.write_day, (DAY, 12, LAND), [[NO_NET], [NO_UPTO], [NO_BEGINNING]]),
    (formats.read_day, (DAY, "at 12\nseen 12 land"), [[NO_NET], [NO_LINE]]),
    (shelled, ("net",), [[NO_LINE]]),
    (DAY.row, (("bound", "walk"),), [[NO_DICT]]),
    (DAY.work_of, ("land",), [[NO_PLACE]]),
    (DAY.road, ("land",), [[NO_PLACE]]),
    (DAY.with_bounds, ({"x": ("land", "off", 1), "a": ("land", "off", 2)},), [[NO_DICT]]),
    (DAY.without, ("walk", "crew"), [[NO_WORK], [NO_WORK]]),
    (DAY.with_lengths, ({"fly": (3, 4)},), [[NO_DICT]]),
    (DAY.with_looks, ({"fly": 3},), [[NO_DICT]]),
    (DAY.with_lasts, ({"off": 3, "board": 2},), [[NO_DICT]]),
    (DAY.renamed, ({"off": "x", "board": "b"},), [[NO_DICT]]),
    (nets.net_fault, (DAY.lasts, DAY.works, DAY.bounds), [FREE, FREE, FREE]),
    (Net, (DAY.lasts, DAY.works, DAY.bounds), [[(InvalidNet, None, [(), None, {"a": True}])]] + [[(InvalidNet, None, [[], None, {"a": True}])]] * 2),
]


def own(value):
    """A copy that shares no dict and no list."""
    if isinstance(value, dict):
        return {key: own(value[key]) for key in value}
    if isinstance(value, (tuple, list)):
        return type(value)(own(item) for item in value)
    return value


def turned(value):
    """The value with the keys of its dicts in another sequence."""
    if isinstance(value, dict):
        return {key: turned(value[key]) for key in reversed(value)}
    if isinstance(value, tuple):
        return tuple(turned(item) for item in value)
    return value


def spoilt(value):
    """Empties all dicts and lists of a returned value."""
    if isinstance(value, (dict, list)):
        for item in value.values() if isinstance(value, dict) else value:
            spoilt(item)
        value.clear()
    if isinstance(value, tuple):
        for item in value:
            spoilt(item)


class CallsTest(unittest.TestCase):
    def test_right_calls(self):
        for call, right, _ in CALLS:
            given = own(right)
            told = call(*given)
            self.assertEqual(shown(given), shown(right))
            if not isinstance(told, (Net, Play, Walk, Day, Crew, Belt, Lane, Runway, Rules, Live)):
                self.assertTrue(are_keys_ascending(told))
            again = shown(told)
            self.assertEqual(shown(call(*turned(given))), again)
            spoilt(told)
            self.assertEqual(shown(call(*given)), again)
            self.assertEqual(shown(given), shown(right))

    def test_one_wrong_argument(self):
        for call, right, errors in CALLS:
            for at, kinds in enumerate(errors):
                for error, attribute, values in kinds or ():
                    for value in values:
                        self.check(call, (*right[:at], value, *right[at + 1:]), error, attribute, value)

    def test_two_wrong_arguments(self):
        for call, right, errors in CALLS:
            for one, other in combinations([at for at, kinds in enumerate(errors) if kinds], 2):
                for error, attribute, values in errors[one]:
                    for _, _, others in errors[other]:
                        for value, later in zip(values, others[1:] + others[:1]):
                            given = (*right[:one], value, *right[one + 1:other], later, *right[other + 1:])
                            self.check(call, given, error, attribute, value)

    def check(self, call, given, error, attribute, value):
        before = [shown(item) for item in given]
        with self.assertRaises(error, msg=before) as caught:
            call(*given)
        self.assertIs(type(caught.exception), error)
        self.assertEqual([shown(item) for item in given], before)
        if attribute is not None:
            self.assertTrue(is_same(getattr(caught.exception, attribute), value))

    def test_judging_functions_accept_every_value(self):
        for call, right, errors in CALLS:
            if call.__name__.startswith(("is_", "are_", "list_")) and len(right) <= 2 and FREE in errors:
                for value in odd_values():
                    for held in (value, (value,), (value, value), ("times", value), ("table", value, value), {"land": value}):
                        before = shown(held)
                        told = call(*right[:-1], held)
                        self.assertEqual(shown(held), before)
                        if call != rows.list_fault:
                            self.assertIsInstance(told, bool)


class TrueIsNotOneTest(unittest.TestCase):
    def test_in_the_place_of_numbers(self):
        net = Net({"a": 1, "e": 1}, {"w": ("dawn", "e", 1, 1, 0)}, {"x": ("a", "e", 1)})
        bounds, waits = tables.closure(net)
        self.assertIs(tables.is_closed(net, (bounds, waits)), True)
        for rows_of, part in ((bounds, 0), (waits, 1)):
            for pair in rows_of:
                if rows_of[pair] in (0, 1):
                    wrong = {**rows_of, pair: bool(rows_of[pair])}
                    self.assertIs(tables.is_form(net, (wrong, waits) if part == 0 else (bounds, wrong)), False)
        self.assertIs(times.are_times(net, {"a": 1, "e": 1}), True)
        self.assertIs(times.are_times(net, {"a": True, "e": 1}), False)
        self.assertIs(times.are_times(net, {"a": False, "e": 1}), False)
        self.assertIs(plays.is_course(net, {"w": 1}), True)
        self.assertIs(plays.is_course(net, {"w": True}), False)
        self.assertIs(rows.is_row(net, ("bound", "a", "e", 1)), True)
        self.assertIs(rows.is_row(net, ("bound", "a", "e", True)), False)
        self.assertIs(rows.is_row(net, ("wait", "a", "w", False)), False)


class LongNumbersTest(unittest.TestCase):
    def test_forty_and_forty_one_digits(self):
        far = 10 ** 40 - 1
        for number in (far, -far):
            self.assertEqual(Net({"a": 1, "b": 1}, (), {"x": ("a", "b", number)}).bounds["x"][2], number)
            self.assertIs(rows.is_row(DAY, ("bound", "land", "off", number)), True)
            self.assertIs(tables.is_form(DAY, ({("land", "off"): number}, {("off", "fly"): number})), True)
            least.follows(BARE, "a", "b", number)
        for number in (far + 1, -far - 1):
            with self.assertRaises(InvalidNet):
                Net({"a": 1, "b": 1}, (), {"x": ("a", "b", number)})
            self.assertIs(rows.is_row(DAY, ("bound", "land", "off", number)), False)
            self.assertIs(tables.is_form(DAY, ({("land", "off"): number}, {})), False)
            self.assertIs(tables.is_form(DAY, ({}, {("off", "fly"): number})), False)

    def test_ticks(self):
        self.assertEqual(plays.seen_at(BARE, {"a": 10 ** 34}, 10 ** 34), ((10 ** 34, "a"),))
        with self.assertRaises(InvalidOperation):
            plays.seen_at(BARE, {"a": 10 ** 34 + 1}, 10 ** 34)


if __name__ == "__main__":
    unittest.main()
