"""The examples of the document, with the answers printed there."""

import doctest
import unittest

EXAMPLES = r'''
Stage 1
>>> from dawnway.base.names import is_integer, is_name, is_names, is_seen, is_tick, seen_until, tick_of
>>> [is_name("ba7.off"), is_name("7"), is_name("dawn"), is_tick(10 ** 34), is_names(("a", "b.1")), is_seen(((0, "on"), (3, "off")))]
[True, False, False, True, True, True]
>>> [seen_until(((0, "on"), (3, "off")), 2), tick_of(((0, "on"), (3, "off")), "off"), tick_of((), "off")]
[((0, 'on'),), 3, None]

Stage 2
>>> from dawnway.net.nets import Net, net_fault
>>> DAY = Net({"board": 60, "land": 40, "off": 60}, {"fly": ("dawn", "land", 10, 30, 0)}, {"crew": ("land", "off", 20), "late": ("board", "off", 25), "turn": ("off", "board", -10), "walk": ("board", "land", -5)})
>>> [DAY.deeds, DAY.ends, DAY.horizon, DAY.row(("last", "off")), DAY.row(("least", "fly")), DAY.road("land"), str(DAY)]
[('board', 'off'), ('land',), 60, ('bound', 'dawn', 'off', 60), ('bound', 'land', 'dawn', -10), ('dawn', ('fly',)), 'net of 3 events, 1 works, 4 bounds']
>>> [net_fault({"a": 5}, {"w": ("dawn", "a", 0, 3, 0)}, ()), net_fault({"a": 5, "b": 5}, {"v": ("a", "b", 1, 2, 0), "w": ("dawn", "a", 1, 2, 3)}, ()), net_fault({}, (), ())]
[('work', 'w'), ('look', 'v'), ('lasts',)]

Stage 3
>>> from dawnway.net.times import course_of, earliest, has_times, is_times_paper, latest, reach
>>> [earliest(DAY), latest(DAY), reach(DAY, "land", "board"), course_of(DAY, latest(DAY))]
[{'board': 15, 'land': 10, 'off': 25}, {'board': 40, 'land': 30, 'off': 50}, (5, 10), {'fly': 30}]
>>> [is_times_paper(DAY.with_bounds({"soon": ("dawn", "board", 14)}), ("ring", (("bound", "soon"), ("bound", "walk"), ("least", "fly")))), has_times(DAY.with_lasts({"land": 9}))]
[True, False]

Stage 4
>>> from dawnway.net.least import follows, idle_bounds, least_net, let_same, trimmed
>>> BARE = Net({"a": 9, "b": 9, "c": 9}, (), {"ab": ("a", "b", 2), "bc": ("b", "c", 3), "ca": ("c", "a", -4), "long": ("a", "c", 5)})
>>> [least_net(BARE)[("a", "c")], least_net(BARE)[("c", "a")], least_net(BARE)[("b", "c")], follows(BARE, "a", "b", 2), follows(BARE, "c", "b", -2)]
[5, -4, 3, True, True]
>>> [idle_bounds(BARE), sorted(trimmed(BARE).bounds), let_same(BARE, trimmed(BARE)), let_same(BARE, BARE.without("ca"))]
[('long',), ['ab', 'bc', 'ca'], True, False]

Stage 5
>>> from dawnway.play.plays import each_course, play
>>> one = play(DAY, lambda tick, seen: ((), None) if seen == () else ((), seen[0][0] + 5) if tick < seen[0][0] + 5 else (("board",), seen[0][0] + 16) if tick == seen[0][0] + 5 else (("off",), None), {"fly": 17})
>>> [one.times, one.rounds, one.broken, one.is_whole, one.seen_to(20), str(one)]
[{'board': 22, 'land': 17, 'off': 33}, ((17, ('land',), ()), (22, (), ('board',)), (33, (), ('off',))), (), True, ((17, 'land'),), 'play of 3 events, 0 broken']
>>> hasty = play(DAY, lambda tick, seen: (("board", "off"), None) if tick == 0 else ((), None), {"fly": 11})
>>> [hasty.times, hasty.broken, hasty.is_broken(("bound", "board", "land", 10)), hasty.is_broken(("bound", "board", "land", 11)), len(list(each_course(DAY)))]
[{'board': 0, 'land': 11, 'off': 0}, (('bound', 'turn'), ('bound', 'walk')), True, False, 21]

Stage 6
>>> from dawnway.rule.rows import is_list, list_fault, made
>>> HARD = Net({"board": 60, "land": 40, "off": 60}, {"fly": ("dawn", "land", 10, 30, 0)}, {"walk": ("board", "land", -5), "soon": ("land", "board", 4)})
>>> [made(HARD, "early", ("bound", "land", "board", -1)), made(HARD, "early", ("bound", "land", "board", 0)), made(HARD, "first", ("bound", "board", "land", -5)), made(HARD, "sure", ("wait", "board", "fly", 35))]
[('bound', 'dawn', 'board', 9), None, ('wait', 'board', 'fly', 35), ('bound', 'board', 'dawn', -10)]
>>> LINES = ((("bound", "board", "land", -5), ("bound", "walk")), (("bound", "land", "board", 4), ("bound", "soon")), (("bound", "land", "land", -1), ("joined", 1, 0)))
>>> [is_list(HARD, LINES), list_fault(HARD, LINES[:2]), list_fault(HARD, LINES[:2] + ((("bound", "land", "land", -2), ("joined", 1, 0)),)), made(HARD, "late", ("bound", "dawn", "board", 7), other=("wait", "board", "fly", 35))]
[True, ('end', None), (2, 'cover'), ('wait', 'dawn', 'fly', 28)]

Stage 7
>>> from dawnway.rule.tables import answer, closure, is_answer, is_safe, needed_wait, table_fault, tightest
>>> [is_safe(DAY), answer(DAY)[0], tightest(DAY, "board", "dawn"), needed_wait(DAY, "board", "fly"), tightest(DAY, "dawn", "off")]
[True, 'table', -15, 35, 50]
>>> [answer(HARD)[0], closure(HARD), is_answer(HARD, ("list", LINES)), table_fault(DAY, {}, {})]
['list', None, True, ('told', ('bound', 'crew'))]

Stage 8
>>> from dawnway.walk.walks import Walk, free_deeds, walk_way, walked
>>> bounds, waits = closure(DAY)
>>> [walked(DAY, bounds, waits, {"fly": 17}).times, walked(DAY, bounds, waits, {"fly": 30}).times, walked(DAY, bounds, waits, {"fly": 30}).broken]
[{'board': 22, 'land': 17, 'off': 32}, {'board': 35, 'land': 30, 'off': 45}, ()]
>>> START = Walk(DAY, bounds, waits)
>>> [START.next(), START.at(12, "land").next(), START.at(12, "land").seen, free_deeds(DAY, bounds, waits, 16, ((12, "land"),)), free_deeds(DAY, bounds, waits, 17, ((12, "land"),))]
[(35, ('board',)), (17, ('board',)), ((12, 'land'),), (), ('board',)]

Stage 9
>>> from dawnway.walk.against import broken_lines, course_against, followed, is_beaten
>>> [course_against(HARD, LINES, lambda tick, seen: ((), 60) if tick < 60 else (("board", "off"), None))[1], course_against(HARD, LINES, lambda tick, seen: ((), None) if seen == () else (("board", "off"), None))[1]]
[('bound', 'soon'), ('bound', 'walk')]
>>> [is_beaten(HARD, lambda tick, seen: ((), None) if seen == () else (("board", "off"), None), ({"fly": 10}, word)) for word in (("bound", "walk"), ("bound", "soon"))]
[True, False]

Stage 10
>>> from dawnway.parts.ahead import ahead_paper, are_firm, earliest_times, firm_row, is_ahead_paper, windows
>>> LASTS, ROOM = {"go": 20, "land": 40, "open": 40}, {"soon": ("land", "open", 6), "behind": ("open", "land", -1)}
>>> FLY, LONG = Net(LASTS, {"fly": ("go", "land", 5, 9, 0)}, ROOM), Net(LASTS, {"fly": ("go", "land", 5, 11, 0)}, ROOM)
>>> [FLY.road("land"), earliest_times(FLY), windows(FLY, {"go": 0, "open": 10}), earliest_times(LONG)]
[('go', ('fly',)), {'go': 0, 'open': 10}, {'go': (0, 0), 'land': (5, 9), 'open': (10, 10)}, None]
>>> [firm_row(LONG, ("bound", "soon")), firm_row(LONG, ("bound", "behind")), are_firm(FLY, {"go": 3, "open": 14}), are_firm(FLY, {"go": 3, "open": 15})]
[('go', 'open', 11), ('open', 'go', -12), True, False]
>>> [is_ahead_paper(LONG, ("ring", (("bound", "soon"), ("bound", "behind")))), is_ahead_paper(LONG, ("ring", (("bound", "soon"),)))]
[True, False]

Stage 11
>>> from dawnway.parts.days import Day, clashes, deal_by, is_deal, net_of, torn_uses
>>> STAND = Net({"ina": 50, "inb": 50, "outa": 50, "outb": 50}, {}, {"staya": ("outa", "ina", -3), "stayb": ("outb", "inb", -2)})
>>> DAY = Day(STAND, ("s1",), uses={"a": ("s1", "ina", "outa", "big"), "b": ("s1", "inb", "outb", "small")}, gaps={("s1", "big", "small"): 2})
>>> [DAY.gap("a", "b"), DAY.gap("b", "a"), net_of(DAY, {"s1": ("a", "b")}).bounds["gap.0"], net_of(DAY, {"s1": ("b", "a")}).bounds["gap.0"]]
[2, 0, ('inb', 'outa', -2), ('ina', 'outb', 0)]
>>> NEAR, FAR = {"ina": 0, "outa": 3, "inb": 4, "outb": 6}, {"ina": 0, "outa": 3, "inb": 5, "outb": 7}
>>> [clashes(DAY, NEAR), clashes(DAY, FAR), deal_by(DAY, FAR), torn_uses(DAY, {"outa": 3})]
[(('a', 'b'),), (), {'s1': ('a', 'b')}, ('a',)]
>>> [clashes(DAY, {"ina": 0, "inb": 9, "outb": 12}), clashes(DAY, {"inb": 0, "outb": 4, "ina": 4})]
[(('a', 'b'),), ()]

Stage 12
>>> from dawnway.parts.deals import deal_paper, is_deal_paper, open_pairs, safe_deals
>>> NARROW = DAY.with_net(Net({"ina": 1, "inb": 1, "outa": 4, "outb": 4}, {}, STAND.bounds))
>>> FIRSTB = DAY.with_net(Net({"ina": 9, "inb": 1, "outa": 20, "outb": 9}, {}, STAND.bounds))
>>> [list(safe_deals(DAY)), list(safe_deals(NARROW)), list(safe_deals(FIRSTB)), open_pairs(DAY), open_pairs(FIRSTB)]
[[{'s1': ('a', 'b')}, {'s1': ('b', 'a')}], [], [{'s1': ('b', 'a')}], (('a', 'b'),), ()]
>>> HEAD = ((("bound", "dawn", "inb", 1), ("last", "inb")), (("bound", "inb", "outa", -2), ("bound", "case.0")), (("bound", "dawn", "outa", -1), ("joined", 0, 1)))
>>> AHEAD = (*HEAD, (("bound", "outa", "dawn", 0), ("begin", "outa")), (("bound", "dawn", "dawn", -1), ("joined", 2, 3)))
>>> BEHIND = ((("bound", "dawn", "ina", 1), ("last", "ina")), (("bound", "ina", "outb", 0), ("bound", "case.0")), (("bound", "outb", "inb", -2), ("bound", "stayb")), (("bound", "ina", "inb", -2), ("joined", 1, 2)), (("bound", "dawn", "inb", -1), ("joined", 0, 3)), (("bound", "inb", "dawn", 0), ("begin", "inb")), (("bound", "dawn", "dawn", -1), ("joined", 4, 5)))
>>> [is_deal_paper(NARROW, ("tree", ("case", "a", "b", ("leaf", AHEAD), ("leaf", BEHIND)))), is_deal_paper(NARROW, ("tree", ("case", "a", "b", ("leaf", BEHIND), ("leaf", AHEAD))))]
[True, False]
>>> deal_paper(FIRSTB)[:2]
('deal', {'s1': ('b', 'a')})

Stage 13
>>> from dawnway.parts.hands import Crew
>>> crew = Crew(((0, 4, "a"), (5, 9, "a"), (5, 8, "b"), (9, 12, "b")), walks={("a", "b"): 2, ("b", "a"): 2})
>>> [crew.can_follow(1, 0), crew.can_follow(2, 0), crew.can_follow(3, 0), crew.can_follow(3, 1), crew.fewest(), crew.paper(1)[0]]
[True, False, True, False, 2, 'crowd']
>>> [crew.is_paper(2, ("rosters", ((0, 1), (2, 3)))), crew.is_paper(1, ("crowd", (1, 2))), crew.is_paper(1, ("crowd", (0, 1)))]
[True, True, False]
>>> [crew.are_rosters(((0, 1), (2, 3)), longest=9), crew.are_rosters(((0, 1), (2, 3)), longest=8), crew.are_rosters(((0, 1), (2, 3)), rest=1), crew.are_rosters(((0, 1), (2, 3)), rest=2)]
[True, False, True, False]

Stage 14
>>> from dawnway.parts.belts import Belt
>>> belt = Belt({"x": (0, 2), "y": (3, 3)}, (("x", 1, 2, 3, 5), ("y", 0, 1, 2, 1)), room=2)
>>> [belt.worst(), belt.excess({"x": 1, "y": 3}, (2, 4)), belt.least_room()]
[(1, {'x': 2, 'y': 3}, (3, 4)), -1, 3]
>>> [belt.window({"x": 2, "y": 3}, 0), belt.paper({"x": 2, "y": 3}), belt.is_plan({"x": 1, "y": 3}, ((2, 0, 2), (3, 0, 1), (3, 1, 1), (4, 1, 1)))]
[(3, 4), ('over', (3, 4)), True]
>>> PAPER = (((3, 0, 2), (4, 0, 1), (4, 1, 1)), ((5, ()), (1, ((3, 4),))))
>>> [belt.is_least_paper({"x": 2, "y": 3}, PAPER), belt.worth_left({"x": 2, "y": 3}), belt.is_least_paper({"x": 1, "y": 3}, PAPER)]
[True, 1, False]

Stage 15
>>> from dawnway.parts.lanes import Lane
>>> lane = Lane(((0, 4, 6), (3, 9, 4)), opens=2)
>>> [lane.most_in(3, 4), lane.longest_queue(2)[0], lane.longest_queue(10)[0], lane.coming(3, 4), lane.is_coming(((4, 10),)), lane.is_coming(((5, 10),))]
[10, 8, 6, ((4, 10),), True, False]
>>> [lane.left_by(((0, 6), (4, 4)), 2), lane.fewest_desks(queue=7)[0], lane.fewest_desks(wait=1)]
[((0, 6, 4), (4, 4, 2)), 3, None]

Stage 16
>>> from dawnway.parts.runways import Runway
>>> gaps = {("jet", "jet"): 2, ("jet", "prop"): 4, ("prop", "jet"): 1, ("prop", "prop"): 2}
>>> runway = Runway({"a": ("jet", 0, 9), "b": ("prop", 0, 9), "c": ("jet", 3, 4)}, gaps)
>>> [runway.ticks(("a", "b", "c")), runway.end(("a", "c", "b")), runway.least_end(), runway.best(), list(runway.each_sequence(3))]
[None, 7, 3, ('b', 'a', 'c'), [('b', 'a', 'c')]]
>>> [runway.paper(3), runway.is_paper(2, ("by", ("b", "a", "c"))), runway.paper(2)[0], Runway({}, {}).paper(0)]
[('by', ('b', 'a', 'c')), False, 'table', ('by', ())]

Stage 18
>>> from dawnway.parts.connections import Rules
>>> rules = Rules({"fly": ("dawn", "in", 3, 9), "hop": ("dawn", "near", 1, 12)}, {"go": (8, (("in", 2, 2), ("near", 1, 4)))})
>>> [rules.ticks({"fly": 9, "hop": 1}), rules.left({"fly": 9, "hop": 1}), rules.left({"fly": 9, "hop": 12}), rules.pairs]
[{'go': 10, 'in': 9, 'near': 1}, (('in', 'go'),), (('near', 'go'),), (('in', 'go'), ('near', 'go'))]
>>> [rules.sure(), rules.with_wait("go", "in", 3).sure(), rules.is_paper(("left", "in", "go"), ("course", {"fly": 9, "hop": 1}))]
[(), (('in', 'go'),), True]

Stage 19
>>> from dawnway.mends.lots import cheapest, conflicts, least_mends, left_over, mend_paper, mended
>>> net = Net({"a": 9, "b": 9}, {}, {"early": ("dawn", "a", 3), "late": ("a", "dawn", -5), "gap": ("b", "a", -4), "near": ("dawn", "b", 8)})
>>> prices = {"early": 4, "late": 6, "gap": 3}
>>> [conflicts(net, prices), least_mends(net, prices), cheapest(net, prices)]
[(('early', 'late'), ('gap', 'late')), (('early', 'gap'), ('late',)), (6, (('late',),))]
>>> [left_over(net, prices, ("early",)), mended(net, ("late",)) == net, mend_paper(net, {"gap": 3})[0]]
[(('gap', 'late'),), False, 'never']

Stage 20
>>> from dawnway.mends.spare import box_paper, full_box, gives, spare, spare_paper, stretched
>>> net = Net({"in": 9, "on": 12, "off": 20}, {"fly": ("dawn", "in", 2, 5, 0), "load": ("in", "on", 1, 3, 0)}, {"slot": ("dawn", "off", 10), "ready": ("off", "on", 0)})
>>> [spare(net, ("fly",)), spare(net, ("load",)), spare(net, ("fly", "load")), full_box(net, ("fly", "load")), full_box(net, ("load", "fly"))]
[2, 2, 1, {'fly': 2, 'load': 0}, {'fly': 0, 'load': 2}]
>>> far = stretched(net, ("fly",), 3)
>>> [box_paper(net, {"fly": 1, "load": 0})[:2], spare(far, ("load",)), gives(far, spare_paper(far, ("load",))[2])]
[('more', 'fly'), None, ('ready', 'slot')]

Stage 21
>>> from dawnway.live.day import Live, is_beginning, verdict, verdicts
>>> net = Net({"in": 9, "on": 12, "off": 20}, {"fly": ("dawn", "in", 2, 5, 0), "load": ("in", "on", 1, 3, 0)}, {"slot": ("dawn", "off", 6), "ready": ("off", "on", 0), "turn": ("in", "on", 3)})
>>> [verdicts(net, 1, ()), verdicts(net, 3, ((2, "in"), (3, "on"))), verdict(net, 6, ((2, "in"), (3, "on")), "slot"), is_beginning(net, 5, ())]
[{'ready': 'luck', 'slot': 'luck', 'turn': 'luck'}, {'ready': 'sure', 'slot': 'holdable', 'turn': 'sure'}, 'lost', False]
>>> live = Live(net, tick=3).later(4, "in")
>>> [live.under_way, live.rest.works["load"], live.later(6, "on").verdict("slot"), live.later(5, "on").verdict("slot"), str(live)]
[('load',), ('in', 'on', 1, 3, 0), 'lost', 'holdable', 'day at 4: 1 of 3 seen']

Stage 22
>>> from dawnway.live.halves import fitting, greatest_high, guested, halves_paper, least_high, whole, windows
>>> field = Net({"in": 9, "on": 12}, {"fly": ("dawn", "in", 2, 5, 0)}, {"taxi": ("in", "on", 3), "lane": ("on", "in", -2), "by": ("dawn", "on", 9), "from": ("on", "dawn", -4)})
>>> hall = Net({"on": 12, "go": 20}, {"on": ("dawn", "on", 4, 9, 0)}, {"call": ("on", "go", 4), "walk": ("go", "on", -1)})
>>> [windows(field, hall), halves_paper(field, hall)[0], sorted(list(whole(field, hall).works)), least_high(field, "on", 5), least_high(field, "on", 6)]
[{'on': (0, 4, 9, 0, True)}, 'table', ['fly'], 7, None]
>>> [greatest_high(hall, "on", 4), fitting(field, hall, "on", 4), halves_paper(field, guested(hall, "on", 4, 6))]
[12, (7, 12), ('open', 'on')]

Stage 23
>>> from dawnway.text.shell import Shell
>>> shell = Shell()
>>> [shell(line) for line in ("event in 9", "event on 12", "work fly dawn in 2 5 0", "bound gap on in -2", "answer", "seen 3 in", "verdicts")]
['done', 'done', 'done', 'done', 'safe', 'done', 'gap holdable']
>>> [shell("bound by dawn on 4"), shell("verdict by"), shell("undo"), shell("net").split("\n")[2:], str(shell)]
['done', 'lost', 'done', ['work fly dawn in 2 5 0', 'bound gap on in -2'], 'shell at 3: 2 events']
'''


class ExamplesTest(unittest.TestCase):
    def test_examples(self):
        test = doctest.DocTestParser().get_doctest(EXAMPLES, {}, "examples", None, 0)
        told = []
        result = doctest.DocTestRunner(verbose=False).run(test, out=told.append)
        self.assertEqual("".join(told), "")
        self.assertEqual((result.attempted, result.failed), (105, 0))


if __name__ == "__main__":
    unittest.main()
