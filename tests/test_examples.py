"""The examples of the document, with the answers printed there."""

import doctest
import unittest

EXAMPLES = r'''
Stage 1
>>> from dawnway.base.names import is_integer, is_name, is_names, is_seen, is_tick, seen_until, tick_of
>>> [is_name("ba7.off"), is_name("7"), is_name("dawn"), is_tick(10 ** 34), is_names(("a", "b.1")), is_seen(((0, "on"), (3, "off")))]
[True, False, False, True, True, True]
>>> [seen_until(((0, "on"), (3, "off")), 2), tick_of(((0, "on"), (3, "off")), "off"), tick_of((), "off")]
[((0, 'on'),), 3, None]

Stage 2
>>> from dawnway.net.nets import Net, net_fault
>>> DAY = Net({"board": 60, "land": 40, "off": 60}, {"fly": ("dawn", "land", 10, 30, 0)}, {"crew": ("land", "off", 20), "late": ("board", "off", 25), "turn": ("off", "board", -10), "walk": ("board", "land", -5)})
>>> [DAY.deeds, DAY.ends, DAY.horizon, DAY.row(("last", "off")), DAY.row(("least", "fly")), DAY.road("land"), str(DAY)]
[('board', 'off'), ('land',), 60, ('bound', 'dawn', 'off', 60), ('bound', 'land', 'dawn', -10), ('dawn', ('fly',)), 'net of 3 events, 1 works, 4 bounds']
>>> [net_fault({"a": 5}, {"w": ("dawn", "a", 0, 3, 0)}, ()), net_fault({"a": 5, "b": 5}, {"v": ("a", "b", 1, 2, 0), "w": ("dawn", "a", 1, 2, 3)}, ()), net_fault({}, (), ())]
[('work', 'w'), ('look', 'v'), ('lasts',)]

Stage 3
>>> from dawnway.net.times import course_of, earliest, has_times, is_times_paper, latest, reach
>>> [earliest(DAY), latest(DAY), reach(DAY, "land", "board"), course_of(DAY, latest(DAY))]
[{'board': 15, 'land': 10, 'off': 25}, {'board': 40, 'land': 30, 'off': 50}, (5, 10), {'fly': 30}]
>>> [is_times_paper(DAY.with_bounds({"soon": ("dawn", "board", 14)}), ("ring", (("bound", "soon"), ("bound", "walk"), ("least", "fly")))), has_times(DAY.with_lasts({"land": 9}))]
[True, False]

Stage 4
>>> from dawnway.net.least import follows, idle_bounds, least_net, let_same, trimmed
>>> BARE = Net({"a": 9, "b": 9, "c": 9}, (), {"ab": ("a", "b", 2), "bc": ("b", "c", 3), "ca": ("c", "a", -4), "long": ("a", "c", 5)})
>>> [least_net(BARE)[("a", "c")], least_net(BARE)[("c", "a")], least_net(BARE)[("b", "c")], follows(BARE, "a", "b", 2), follows(BARE, "c", "b", -2)]
[5, -4, 3, True, True]
>>> [idle_bounds(BARE), sorted(trimmed(BARE).bounds), let_same(BARE, trimmed(BARE)), let_same(BARE, BARE.without("ca"))]
[('long',), ['ab', 'bc', 'ca'], True, False]

Stage 5
>>> from dawnway.play.plays import each_course, play
>>> one = play(DAY, lambda tick, seen: ((), None) if seen == () else ((), seen[0][0] + 5) if tick < seen[0][0] + 5 else (("board",), seen[0][0] + 16) if tick == seen[0][0] + 5 else (("off",), None), {"fly": 17})
>>> [one.times, one.rounds, one.broken, one.is_whole, one.seen_to(20), str(one)]
[{'board': 22, 'land': 17, 'off': 33}, ((17, ('land',), ()), (22, (), ('board',)), (33, (), ('off',))), (), True, ((17, 'land'),), 'play of 3 events, 0 broken']
>>> hasty = play(DAY, lambda tick, seen: (("board", "off"), None) if tick == 0 else ((), None), {"fly": 11})
>>> [hasty.times, hasty.broken, hasty.is_broken(("bound", "board", "land", 10)), hasty.is_broken(("bound", "board", "land", 11)), len(list(each_course(DAY)))]
[{'board': 0, 'land': 11, 'off': 0}, (('bound', 'turn'), ('bound', 'walk')), True, False, 21]

Stage 6
>>> from dawnway.rule.rows import is_list, list_fault, made
>>> HARD = Net({"board": 60, "land": 40, "off": 60}, {"fly": ("dawn", "land", 10, 30, 0)}, {"walk": ("board", "land", -5), "soon": ("land", "board", 4)})
>>> [made(HARD, "early", ("bound", "land", "board", -1)), made(HARD, "early", ("bound", "land", "board", 0)), made(HARD, "first", ("bound", "board", "land", -5)), made(HARD, "sure", ("wait", "board", "fly", 35))]
[('bound', 'dawn', 'board', 9), None, ('wait', 'board', 'fly', 35), ('bound', 'board', 'dawn', -10)]
>>> LINES = ((("bound", "board", "land", -5), ("bound", "walk")), (("bound", "land", "board", 4), ("bound", "soon")), (("bound", "land", "land", -1), ("joined", 1, 0)))
>>> [is_list(HARD, LINES), list_fault(HARD, LINES[:2]), list_fault(HARD, LINES[:2] + ((("bound", "land", "land", -2), ("joined", 1, 0)),)), made(HARD, "late", ("bound", "dawn", "board", 7), other=("wait", "board", "fly", 35))]
[True, ('end', None), (2, 'cover'), ('wait', 'dawn', 'fly', 28)]

Stage 7
>>> from dawnway.rule.tables import answer, closure, is_answer, is_safe, needed_wait, table_fault, tightest
>>> [is_safe(DAY), answer(DAY)[0], tightest(DAY, "board", "dawn"), needed_wait(DAY, "board", "fly"), tightest(DAY, "dawn", "off")]
[True, 'table', -15, 35, 50]
>>> [answer(HARD)[0], closure(HARD), is_answer(HARD, ("list", LINES)), table_fault(DAY, {}, {})]
['list', None, True, ('told', ('bound', 'crew'))]
'''


class ExamplesTest(unittest.TestCase):
    def test_examples(self):
        test = doctest.DocTestParser().get_doctest(EXAMPLES, {}, "examples", None, 0)
        told = []
        result = doctest.DocTestRunner(verbose=False).run(test, out=told.append)
        self.assertEqual("".join(told), "")
        self.assertEqual((result.attempted, result.failed), (27, 0))


if __name__ == "__main__":
    unittest.main()
