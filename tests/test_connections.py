"""Connections: [18.1] to [18.6]."""

import random
import unittest
from itertools import product

from dawnway.errors import InvalidCourse, InvalidDay, InvalidNumber, InvalidOperation, TooMany, UnknownName
from dawnway.net.nets import Net
from dawnway.parts import connections
from dawnway.parts.connections import Rules
from dawnway.play.plays import each_course, play
from tests.helpers import are_keys_ascending, is_same, odd_values

FAR = 10 ** 30
WORKS = {"fly": ("dawn", "in", 3, 9), "hop": ("dawn", "near", 1, 12)}
DEEDS = {"go": (8, (("in", 2, 2), ("near", 1, 4)))}
RULES = Rules(WORKS, DEEDS)
LEFT = ("left", "in", "go")
NEAR = ("left", "near", "go")


def small_rules(seed):
    """Small rules: deeds that feed deeds, works that begin by deeds and by ends."""
    rng = random.Random(seed)
    events, works, deeds = ["dawn"], {}, {}
    for index in range(rng.randint(2, 5)):
        if rng.random() < 0.5 and len(works) < 3:
            least = rng.randint(1, 3)
            works[f"w{index}"] = (rng.choice(events), f"x{index}", least, least + rng.randint(0, 3))
            events.append(f"x{index}")
        else:
            chosen = rng.sample(events[1:], min(len(events) - 1, rng.randint(0, 2)))
            feeders = tuple((event, rng.randint(0, 3), rng.randint(0, 4)) for event in chosen)
            deeds[f"d{index}"] = (rng.randint(0, 6), feeders)
            events.append(f"d{index}")
    return Rules(works, deeds)


def small_ones(count=120):
    return [small_rules(seed) for seed in range(count)]


def all_courses(rules):
    names = sorted(rules.works)
    lengths = [range(rules.works[name][2], rules.works[name][3] + 1) for name in names]
    return [dict(zip(names, chosen)) for chosen in product(*lengths)]


def plain_ticks(rules, course):
    """The ticks, as [18.2] tells them, each one worked out anew."""
    ended = {work[1]: name for name, work in rules.works.items()}

    def tick_of(event):
        if event == "dawn":
            return 0
        if event in ended:
            return tick_of(rules.works[ended[event]][0]) + course[ended[event]]
        due, feeders = rules.deeds[event]
        return max([due, *[min(tick_of(feeder) + walk, due + wait) for feeder, walk, wait in feeders]])

    return {event: tick_of(event) for event in rules.events}


def plain_left(rules, course):
    ticks = plain_ticks(rules, course)
    return tuple(sorted((feeder, deed) for deed, (_, feeders) in rules.deeds.items() for feeder, walk, _ in feeders
                        if ticks[feeder] + walk > ticks[deed]))


def cases_of(rules, deed):
    many = len(rules.deeds[deed][1])
    return [(side, top) for side in product(("come", "over"), repeat=many) for top in range(-1, many)]


def case_bounds(rules, deed, case):
    due, feeders = rules.deeds[deed]
    bounds = [(deed, "dawn", -due)]
    for (feeder, walk, wait), side in zip(feeders, case[0]):
        s = due + wait
        bounds += [("dawn", feeder, s - walk), (deed, feeder, -walk)] if side == "come" else \
            [(feeder, "dawn", walk - s - 1), (deed, "dawn", -s)]
    if case[1] == -1:
        return [*bounds, ("dawn", deed, due)]
    feeder, walk, wait = feeders[case[1]]
    return [*bounds, (feeder, deed, walk) if case[0][case[1]] == "come" else ("dawn", deed, due + wait)]


def bound_of(rules, question):
    word, feeder, deed = question
    walk = {name: walk for name, walk, _ in rules.deeds[deed][1]}[feeder]
    return (feeder, deed, walk - 1) if word == "left" else (deed, feeder, -walk)


def plain_is_tree(rules, question, tree, told=()):
    """Whether the value is a tree of the question, as [18.6] tells it."""
    if len(tree) == 2 and tree[0] == "ring":
        allowed = [bound_of(rules, question), *[bound for deed, case in told for bound in case_bounds(rules, deed, case)]]
        allowed += [(event, "dawn", 0) for event in rules.events]
        for begin, end, least, most in rules.works.values():
            allowed += [(begin, end, most), (end, begin, -least)]
        ring = tree[1]
        return len(ring) >= 2 and all(bound in allowed for bound in ring) and sum(bound[2] for bound in ring) < 0 \
            and all(ring[at - 1][1] == ring[at][0] for at in range(len(ring)))
    if len(tree) != 3 or tree[0] != "deed" or tree[1] not in rules.deeds or tree[1] in dict(told):
        return False
    cases = cases_of(rules, tree[1])
    return len(tree[2]) == len(cases) and all(plain_is_tree(rules, question, part, (*told, (tree[1], case)))
                                              for case, part in zip(cases, tree[2]))


def rings_in(tree):
    return [tree] if tree[0] == "ring" else [ring for part in tree[2] for ring in rings_in(part)]


def changed(tree, change):
    """The tree with its rings changed."""
    return change(tree) if tree[0] == "ring" else ("deed", tree[1], tuple(changed(part, change) for part in tree[2]))


def tree_in_order(rules, question, deeds, edges=(), told=()):
    """A tree that tells all cases of the deeds in this sequence, and rings by trying all sums."""
    bounds = [*edges]
    if told == ():
        bounds = [bound_of(rules, question), *[(event, "dawn", 0) for event in rules.events]]
        for begin, end, least, most in rules.works.values():
            bounds += [(begin, end, most), (end, begin, -least)]
    if deeds == ():
        return ("ring", ring_below(bounds))
    deed = deeds[0]
    parts = []
    for case in cases_of(rules, deed):
        parts.append(tree_in_order(rules, question, deeds[1:], (*bounds, *case_bounds(rules, deed, case)), (*told, deed)))
    return ("deed", deed, tuple(parts))


def ring_below(bounds):
    """Any ring of the bounds with a sum below 0, by Bellman and Ford."""
    sums, entry = {event: 0 for bound in bounds for event in bound[:2]}, {}
    at = None
    for _ in range(len(sums) + 1):
        at = None
        for bound in bounds:
            if sums[bound[0]] + bound[2] < sums[bound[1]]:
                sums[bound[1]] = sums[bound[0]] + bound[2]
                entry[bound[1]] = bound
                at = bound[1]
    for _ in range(len(sums)):
        at = entry[at][0]
    ring = [entry[at]]
    while ring[0][0] != at:
        ring.insert(0, entry[ring[0][0]])
    return tuple(ring)


class RulesTest(unittest.TestCase):
    def raises(self, *given):
        with self.assertRaises(InvalidDay, msg=given):
            Rules(*given)

    def test_properties(self):
        self.assertEqual(connections.MAX_CASES, 4096)
        turned = Rules(dict(reversed(WORKS.items())), dict(DEEDS))
        self.assertEqual((turned.works, turned.deeds), (WORKS, DEEDS))
        self.assertEqual(list(turned.works), ["fly", "hop"])
        self.assertEqual((turned.events, turned.pairs), (("go", "in", "near"), (("in", "go"), ("near", "go"))))
        self.assertEqual((len(turned), str(turned)), (2, "rules of 2 pairs"))
        self.assertTrue(turned == RULES)
        self.assertFalse(turned != RULES)
        others = [Rules({**WORKS, "fly": ("dawn", "in", 3, 8)}, DEEDS), Rules(WORKS, {"go": (8, DEEDS["go"][1][::-1])})]
        for other in [*others, *odd_values()]:
            self.assertEqual(RULES == other, isinstance(other, Rules) and (other.works, other.deeds) == (WORKS, DEEDS))
        with self.assertRaises(TypeError):
            iter(RULES)
        self.assertEqual(str(Rules({}, {"go": (3, ())})), "rules of 0 pairs")

    def test_nothing_is_shared(self):
        works, deeds = dict(WORKS), dict(DEEDS)
        rules = Rules(works, deeds)
        works.clear()
        deeds.clear()
        rules.works.clear()
        rules.deeds.clear()
        self.assertEqual((rules.works, rules.deeds), (WORKS, DEEDS))

    def test_one_condition_broken(self):
        for works in (None, (), [], "x", 5, {1: WORKS["fly"]}, {"dawn": WORKS["fly"]}, {"fly": ("dawn", "in", 3)},
                      {"fly": ["dawn", "in", 3, 9]}, {"fly": ("x", "in", 3, 9)}, {"fly": ("dawn", "dawn", 3, 9)},
                      {"fly": ("dawn", "in", 0, 9)}, {"fly": ("dawn", "in", 4, 3)}, {"fly": ("dawn", "in", True, 9)},
                      {"fly": ("dawn", "in", 1, True)}, {"fly": (None, "in", 3, 9)}, {"fly": ("dawn", "A", 3, 9)},
                      {"fly": ("in", "in", 3, 9)}, {"fly": ("dawn", "go", 3, 9)}, {"fly": ("dawn", ["in"], 3, 9)},
                      {"fly": ("dawn", "in", 3, 9), "jet": ("dawn", "in", 3, 9)}, {"fly": ("dawn", "in", 3, None)}):
            self.raises(works, {"go": (8, ())})
        for deeds in (None, (), [], "x", 5, {1: (8, ())}, {"dawn": (8, ())}, {"go": (8,)}, {"go": [8, ()]}, {"go": (-1, ())},
                      {"go": (True, ())}, {"go": (8, [])}, {"go": (8, (("x", 2, 2),))}, {"go": (8, (("dawn", 2, 2),))},
                      {"go": (8, (("in", 2),))}, {"go": (8, (("in", -1, 2),))}, {"go": (8, (("in", 2, True),))},
                      {"go": (8, (("in", 2, 10 ** 34 + 1),))}, {"go": (8, (("in", 2, 2), ("in", 1, 2)))}, {"in": (8, ())},
                      {"go": (8, (("go", 2, 2),))}, {"go": (8, (("in", 2, None),))}, {"go": (8, ((["in"], 2, 2),))}):
            self.raises(WORKS, deeds)
        self.raises({}, {})

    def test_four_feeders_and_five(self):
        works = {f"w{index}": ("dawn", f"x{index}", 1, 2) for index in range(5)}
        feeders = tuple((f"x{index}", 0, 0) for index in range(5))
        self.assertEqual(len(Rules(works, {"go": (1, feeders[:4])})), 4)
        self.raises(works, {"go": (1, feeders)})

    def test_thirty_and_thirty_one(self):
        works = {f"w{index:02}": ("dawn", f"x{index:02}", 1, 2) for index in range(31)}
        deeds = {f"d{index:02}": (1, ()) for index in range(31)}
        self.raises(works, {})
        self.raises({}, deeds)
        del works["w30"], deeds["d30"]
        self.assertEqual(len(Rules(works, deeds).events), 60)

    def test_what_hangs_on_itself(self):
        self.raises({"w": ("x", "y", 1, 2), "v": ("y", "x", 1, 2)}, {})
        self.raises({}, {"a": (1, (("b", 0, 1),)), "b": (1, (("a", 0, 1),))})
        self.raises({"w": ("a", "x", 1, 2)}, {"a": (1, (("x", 0, 1),))})
        for many in (2, 29):
            ring = {f"d{index:02}": (1, ((f"d{(index + 1) % many:02}", 0, 1),)) for index in range(many)}
            self.raises({}, {**ring, "free": (1, ())})
            ring["d00"] = (1, ())
            self.assertEqual(len(Rules({}, ring)), many - 1)
        works = {f"w{index:02}": (f"d{index:02}", f"x{index:02}", 1, 2) for index in range(30)}
        deeds = {f"d{index:02}": (1, ((f"x{(index + 1) % 30:02}", 0, 1),)) for index in range(30)}
        self.raises(works, deeds)
        deeds["d29"] = (1, ())
        self.assertEqual(len(Rules(works, deeds)), 29)

    def test_ticks_at_the_limit(self):
        for most, right in ((FAR, True), (FAR + 1, False)):
            self.check(right, {"w": ("dawn", "x", 1, most)}, {})
            self.check(right, {"w": ("dawn", "x", 1, 1), "v": ("x", "y", 1, most - 1)}, {})
            self.check(right, {}, {"go": (most, ())})
            self.check(right, {"w": ("dawn", "x", 1, 5)}, {"go": (7, (("x", most - 5, 10 ** 34),))})
            self.check(right, {"w": ("dawn", "x", 1, 5)}, {"go": (7, (("x", 10 ** 34, most - 7),))})
        self.check(True, {"w": ("dawn", "x", 1, 5)}, {"go": (7, (("x", 10 ** 34, 1),))})
        self.check(False, {"w": ("dawn", "x", 1, 10 ** 39)}, {})

    def check(self, right, *given):
        if right:
            Rules(*given)
        else:
            self.raises(*given)


class CourseTest(unittest.TestCase):
    def test_ticks_and_pairs_left(self):
        left = 0
        for rules in small_ones():
            for course in all_courses(rules):
                self.assertEqual(rules.ticks(course), plain_ticks(rules, course))
                self.assertTrue(are_keys_ascending(rules.ticks(course)))
                self.assertEqual(rules.left(course), plain_left(rules, course))
                left += len(rules.left(course))
        self.assertGreater(left, 100)

    def test_deeds_that_feed_deeds(self):
        rules = Rules({"w": ("dawn", "x", 1, 9)}, {"a": (2, (("x", 1, 4),)), "b": (3, (("a", 2, 3),))})
        self.assertEqual(rules.ticks({"w": 4}), {"a": 5, "b": 6, "x": 4})
        self.assertEqual(rules.left({"w": 4}), (("a", "b"),))
        self.assertEqual(rules.left({"w": 9}), (("a", "b"), ("x", "a")))

    def test_no_tick_falls_if_a_length_grows(self):
        for rules in small_ones(40):
            for course in all_courses(rules):
                ticks = rules.ticks(course)
                for name in course:
                    if course[name] < rules.works[name][3]:
                        longer = rules.ticks({**course, name: course[name] + 1})
                        self.assertTrue(all(longer[event] >= ticks[event] for event in ticks))

    def test_what_is_no_course(self):
        for course in (None, (), [], {}, 5, {"fly": 3}, {"fly": 3, "hop": 1, "x": 1}, {"fly": 2, "hop": 1}, {"fly": 10, "hop": 1},
                       {"fly": True, "hop": 1}, {"fly": 3, "hop": True}, {"fly": 3, "hop": None}, {1: 3, "hop": 1}):
            for call in (RULES.ticks, RULES.left):
                with self.assertRaises(InvalidCourse):
                    call(course)
            self.assertIs(RULES.is_paper(LEFT, ("course", course)), False)

    def test_the_net(self):
        net = RULES.as_net()
        self.assertEqual(net, Net({"go": 12, "in": 9, "near": 12}, {"fly": ("dawn", "in", 3, 9, 0), "hop": ("dawn", "near", 1, 12, 0)}))
        for rules in small_ones(40):
            net = rules.as_net()
            self.assertEqual(net.bounds, {})
            self.assertEqual(net.works, {name: (*work, 0) for name, work in rules.works.items()})
            self.assertEqual(net.lasts, plain_ticks(rules, {name: work[3] for name, work in rules.works.items()}))

    def test_the_way(self):
        for rules in small_ones(80):
            net, way = rules.as_net(), rules.way()
            for course in each_course(net):
                told = play(net, way, course)
                self.assertEqual(told.times, plain_ticks(rules, course))
                self.assertEqual((told.broken, told.is_whole), ((), True))

    def test_the_way_at_far_ticks(self):
        rules = Rules({"w": ("dawn", "x", 1, 3)}, {"go": (5, (("x", 1, 10 ** 34),)), "on": (FAR, (("go", 3, 0),))})
        for length in (1, 3):
            told = play(rules.as_net(), rules.way(), {"w": length})
            self.assertEqual(told.times, {"go": 5, "on": FAR, "x": length})
        self.assertEqual(rules.way()(0, ()), ((), FAR))
        self.assertEqual(rules.way()(3, ((3, "x"),)), ((), 5))

    def test_what_the_way_can_not_be_asked(self):
        for given in ((-1, ()), (True, ()), (None, ()), (10 ** 34 + 1, ()), (3, None), (3, []), (3, ((4, "in"), (3, "near"))), (3, ((3, 5),)), (3, 7)):
            with self.assertRaises(InvalidOperation):
                RULES.way()(*given)

    def test_the_way_does_all_of_a_tick(self):
        rules = Rules({"w": ("dawn", "x", 1, 9)}, {"a": (0, (("x", 0, 9),)), "b": (0, (("a", 0, 9),)), "c": (0, (("b", 1, 9),))})
        self.assertEqual(rules.way()(2, ((2, "x"),)), (("a", "b"), 3))


class PaperTest(unittest.TestCase):
    def test_just_one_kind_against_all_courses(self):
        seen = set()
        for rules in small_ones():
            courses = all_courses(rules)
            for feeder, deed in rules.pairs:
                for word in ("left", "caught"):
                    question = (word, feeder, deed)
                    true = [course for course in courses if ((feeder, deed) in plain_left(rules, course)) == (word == "left")]
                    kind, found = paper = rules.paper(question)
                    self.assertEqual(kind, "course" if true else "tree")
                    self.assertIs(rules.is_paper(question, paper), True)
                    seen.add((word, kind))
                    if kind == "course":
                        self.assertIn(found, true)
                        self.assertTrue(are_keys_ascending(found))
                    else:
                        self.assertTrue(plain_is_tree(rules, question, found))
                    for course in courses:
                        self.assertIs(rules.is_paper(question, ("course", course)), course in true)
        self.assertEqual(len(seen), 4)

    def test_neither_extreme_course_shows_it(self):
        # The pair is left if the other feeder is early, and this one late.
        rules = Rules(WORKS, DEEDS)
        self.assertEqual(rules.left({"fly": 9, "hop": 12}), (("near", "go"),))
        kind, course = rules.paper(LEFT)
        self.assertEqual(kind, "course")
        self.assertIn(("in", "go"), rules.left(course))
        for at in (2, 3):
            self.assertNotIn(("in", "go"), rules.left({name: WORKS[name][at] for name in WORKS}))

    def test_each_case_of_each_course(self):
        for rules in small_ones(40):
            for course in all_courses(rules):
                ticks = {"dawn": 0, **rules.ticks(course)}
                for deed in rules.deeds:
                    held = [case for case in cases_of(rules, deed)
                            if all(ticks[q] <= ticks[p] + x for p, q, x in case_bounds(rules, deed, case))]
                    self.assertGreater(len(held), 0)

    def test_trees_that_the_program_did_not_make(self):
        found = 0
        for rules in small_ones(160):
            for pair in rules.pairs:
                for word in ("left", "caught"):
                    question = (word, *pair)
                    kind, tree = rules.paper(question)
                    if kind == "course":
                        continue
                    deeds = tuple(rules.deeds)
                    if len(deeds) > 2 and max(len(cases_of(rules, deed)) for deed in deeds) > 4:
                        deeds = tuple(deed for deed in deeds if len(cases_of(rules, deed)) < 12 or deed == pair[1])
                    # All deeds in a sequence of their own, turned about; also those on which nothing hangs.
                    if set(deeds) == set(rules.deeds):
                        for order in (deeds, deeds[::-1]):
                            told = tree_in_order(rules, question, order)
                            self.assertTrue(plain_is_tree(rules, question, told))
                            self.assertIs(rules.is_paper(question, ("tree", told)), True)
                            found += 1
                    turned = changed(tree, lambda ring: ("ring", (*ring[1][1:], ring[1][0])))
                    self.assertIs(rules.is_paper(question, ("tree", turned)), True)
                    twice = changed(tree, lambda ring: ("ring", ring[1] * 2))
                    self.assertIs(rules.is_paper(question, ("tree", twice)), True)
        self.assertGreater(found, 40)

    def test_trees_with_one_thing_wrong(self):
        checked = 0
        for seed, rules in enumerate(small_ones(160)):
            rng = random.Random(seed)
            for pair in rules.pairs:
                for word in ("left", "caught"):
                    question = (word, *pair)
                    kind, tree = rules.paper(question)
                    if kind == "course" or tree[0] == "ring":
                        continue
                    at = rng.randrange(len(tree[2]))
                    deed = tree[1]
                    wrong = [
                        ("deed", deed, tree[2][:-1]), ("deed", deed, (*tree[2], tree[2][0])), ("deed", deed, list(tree[2])),
                        ("deed", "x", tree[2]), ("deed", None, tree[2]), ("deed", pair[0] if pair[0] not in rules.deeds else 1, tree[2]),
                        ("deed", deed, (*tree[2][:at], ("deed", deed, tree[2]), *tree[2][at + 1:])),
                        ["deed", deed, tree[2]], ("deed", deed), ("case", deed, tree[2]), ("deed", deed, tree[2], 1), None, (), ("ring", ()),
                        changed(tree, lambda ring: ("ring", ring[1][:-1])), changed(tree, lambda ring: ("ring", list(ring[1]))),
                        changed(tree, lambda ring: ("ring", ring[1], 1)), changed(tree, lambda ring: ["ring", ring[1]]),
                        changed(tree, lambda ring: ("ring", (*ring[1][:-1], (*ring[1][-1][:2], ring[1][-1][2] - sum(b[2] for b in ring[1]))))),
                        changed(tree, lambda ring: ("ring", (*ring[1][:-1], (*ring[1][-1][:2], str(ring[1][-1][2]))))),
                        changed(tree, lambda ring: ("ring", (*ring[1][:-1], (*ring[1][-1][:2], ring[1][-1][2] - 1)))),
                    ]
                    for value in wrong:
                        if value and value[0] == "deed" and isinstance(value, tuple) and value[1:] and plain_safe(rules, question, value):
                            continue
                        self.assertIs(rules.is_paper(question, ("tree", value)), False, value)
                        checked += 1
                    other = ("caught" if word == "left" else "left", *pair)
                    self.assertIs(rules.is_paper(other, ("tree", tree)), plain_is_tree(rules, other, tree))
                    # The trees of two cases exchanged: right only if no ring needs its own case.
                    turned = ("deed", deed, tree[2][::-1])
                    self.assertIs(rules.is_paper(question, ("tree", turned)), plain_is_tree(rules, question, turned))
        self.assertGreater(checked, 300)

    def test_triples_of_a_case_that_is_not_on_the_way(self):
        rules = Rules({"w": ("dawn", "x", 1, 4)}, {"go": (5, (("x", 1, 0),))})
        question = ("left", "x", "go")
        kind, tree = rules.paper(question)
        self.assertEqual((kind, tree[:2]), ("tree", ("deed", "go")))
        # Without the cases nothing bars it.
        for ring in rings_in(tree):
            self.assertIs(rules.is_paper(question, ("tree", ring)), plain_is_tree(rules, question, ring))
        only = (("x", "go", 0), ("go", "x", -1))
        self.assertIs(rules.is_paper(question, ("tree", ("ring", only))), False)

    def test_dawn_behind_dawn_is_no_triple(self):
        rules = Rules({"w": ("dawn", "x", 2, 4)}, {"go": (0, (("x", 1, 9),))})
        question = ("left", "x", "go")
        tree = rules.paper(question)[1]
        for more, right in ((("x", "dawn", 0), False), (("dawn", "dawn", 0), False)):
            told = changed(tree, lambda ring: ("ring", (more, *ring[1])))
            self.assertIs(rules.is_paper(question, ("tree", told)), right)
        # Where it would fit by its events, too.
        ring = (("dawn", "dawn", 0), ("dawn", "x", -5), ("x", "dawn", -2))
        self.assertIs(rules.is_paper(question, ("tree", ("deed", "go", (("ring", ring),) * 4))), False)
        late = Rules({"w": ("dawn", "x", 5, 6)}, {"go": (0, (("x", 0, 1),))})
        kind, tree = late.paper(("caught", "x", "go"))
        self.assertEqual(kind, "tree")
        at_dawn = changed(tree, lambda ring: ("ring", with_dawn(ring[1])))
        self.assertIs(late.is_paper(("caught", "x", "go"), ("tree", tree)), True)
        self.assertNotEqual(at_dawn, tree)
        self.assertIs(late.is_paper(("caught", "x", "go"), ("tree", at_dawn)), False)

    def test_parts_that_are_no_triples(self):
        tree = RULES.with_wait("go", "in", 3).paper(LEFT)[1]
        rules = RULES.with_wait("go", "in", 3)
        self.assertIs(rules.is_paper(LEFT, ("tree", tree)), True)
        for word in ("leaf", "course", "", None):
            self.assertIs(rules.is_paper(LEFT, (word, tree)), False)
            self.assertIs(rules.is_paper(LEFT, ("tree", changed(tree, lambda ring: (word, ring[1])))), False)
        for wrong in ((["in"], "dawn", 0), ("in", ["dawn"], 0), ({}, "dawn", 0), ("in", {}, 0), ("in", "dawn", []), ("in", "dawn"),
                      ("in", "dawn", 0, 0), ["in", "dawn", 0], (1, 2, 3), None, "in"):
            value = changed(tree, lambda ring: ("ring", (wrong, *ring[1])))
            self.assertIs(rules.is_paper(LEFT, ("tree", value)), False)

    def test_works_on_which_nothing_hangs(self):
        rules = Rules({**WORKS, "far": ("go", "home", 4, 7), "other": ("dawn", "away", 1, 2)}, DEEDS)
        kind, course = paper = rules.paper(LEFT)
        self.assertEqual((kind, list(course)), ("course", ["far", "fly", "hop", "other"]))
        self.assertIs(rules.is_paper(LEFT, paper), True)
        self.assertIn(("in", "go"), rules.left(course))

    def test_a_sum_of_0(self):
        rules = Rules({"w": ("dawn", "x", 2, 2)}, {"go": (0, (("x", 1, 9),))})
        question = ("left", "x", "go")
        even = (("dawn", "x", 2), ("x", "dawn", -2))
        tree = rules.paper(question)[1]
        self.assertIs(rules.is_paper(question, ("tree", tree)), True)
        self.assertIs(rules.is_paper(question, ("tree", changed(tree, lambda ring: ("ring", even)))), False)
        self.assertIs(rules.is_paper(question, ("tree", changed(tree, lambda ring: ("ring", ring[1] + even)))),
                      all(ring[1][0][0] in ("dawn",) for ring in rings_in(tree)))

    def test_numbers_that_are_true(self):
        rules = Rules({"w": ("dawn", "x", 1, 1)}, {"go": (0, (("x", 0, 9),))})
        question = ("left", "x", "go")
        tree = rules.paper(question)[1]
        self.assertIs(rules.is_paper(question, ("tree", tree)), True)
        truth = changed(tree, lambda ring: ("ring", tuple((p, q, True if x == 1 else False if x == 0 else x) for p, q, x in ring[1])))
        self.assertIs(rules.is_paper(question, ("tree", truth)), truth == tree and not any(
            x in (0, 1) for ring in rings_in(tree) for _, _, x in ring[1]))

    def test_what_is_no_question(self):
        for question in (None, (), "left", ("left", "in"), ["left", "in", "go"], ("seen", "in", "go"), ("left", "go", "in"),
                         ("left", "x", "go"), ("left", ["in"], "go"), (True, "in", "go"), ("left", "in", "go", 1), {}, 5):
            for call in (RULES.paper, lambda question: RULES.is_paper(question, None)):
                with self.assertRaises(InvalidOperation):
                    call(question)

    def test_judging_accepts_every_value(self):
        for value in odd_values():
            for held in (value, ("course", value), ("tree", value), ("tree", ("ring", value)), ("tree", ("ring", (value, value))),
                         ("tree", ("deed", "go", value)), ("tree", ("deed", value, ())), ("tree", ("deed", "go", (value,) * 12))):
                self.assertIs(RULES.is_paper(LEFT, held), False)

    def test_what_is_not_true(self):
        # Left in one course, caught in one in which all lengths are greater.
        self.assertEqual(RULES.left({"fly": 8, "hop": 1}), ())
        rules = Rules({"w": ("dawn", "x", 1, 9), "v": ("dawn", "y", 1, 9)}, {"go": (2, (("x", 1, 1), ("y", 0, 9)))})
        self.assertIn(("x", "go"), rules.left({"w": 4, "v": 2}))
        self.assertNotIn(("x", "go"), rules.left({"w": 5, "v": 9}))
        # With a longer wait for one feeder another deed leaves more.
        slow = Rules({"w": ("dawn", "x", 1, 9)}, {"a": (1, (("x", 0, 0),)), "b": (1, (("a", 0, 2),))})
        self.assertNotIn(("a", "b"), slow.left({"w": 9}))
        self.assertIn(("a", "b"), slow.with_wait("a", "x", 9).left({"w": 9}))


def plain_safe(rules, question, value):
    """Whether a value that has the form of a tree is a right one."""
    try:
        return isinstance(value[2], tuple) and plain_is_tree(rules, question, value)
    except (TypeError, IndexError, KeyError, ValueError):
        return False


def with_dawn(ring):
    """The ring with (dawn, dawn, 0) ahead of a triple that begins at dawn."""
    for at, bound in enumerate(ring):
        if bound[0] == "dawn":
            return (*ring[:at], ("dawn", "dawn", 0), *ring[at:])
    return ring


class ManyCasesTest(unittest.TestCase):
    def rules(self, deeds, wide=True):
        """Deeds that feed one another in a row, the first one fed by an end."""
        told, feeder = {}, "x"
        for index in range(deeds):
            told[f"d{index}"] = (5, ((feeder, 1, 50),))
            feeder = f"d{index}"
        return Rules({"w": ("dawn", "x", 1, 9 if wide else 1)}, told)

    def test_4096_and_more(self):
        rules = self.rules(6)
        self.assertEqual(rules.paper(("left", "d4", "d5"))[0], "tree")
        self.assertEqual(rules.sure(), rules.pairs)
        rules = self.rules(7)
        self.assertEqual(rules.paper(("left", "d4", "d5"))[0], "tree")
        for call in (lambda: rules.paper(("left", "d5", "d6")), rules.sure):
            with self.assertRaises(TooMany) as caught:
                call()
            self.assertEqual(caught.exception.limit, 4096)
        # The course of all least lengths shows it.
        self.assertEqual(rules.paper(("caught", "d5", "d6"))[0], "course")
        self.assertIs(rules.is_paper(("left", "d5", "d6"), None), False)

    def test_the_longest_course_shows_it(self):
        rules = self.rules(7)
        late = rules.with_wait("d6", "d5", 6)
        self.assertEqual(late.paper(("left", "d5", "d6")), ("course", {"w": 9}))
        self.assertNotIn(("d5", "d6"), late.left({"w": 1}))

    def test_four_feeders(self):
        works = {f"w{index}": ("dawn", f"x{index}", 1, 6) for index in range(5)}
        feeders = tuple((f"x{index}", 1, 9) for index in range(4))
        rules = Rules(works, {"go": (2, feeders), "on": (3, (("go", 1, 1), ("x4", 0, 9))), "far": (1, (("on", 2, 90),))})
        # 80 * 12 * 4 is 3840, 80 * 12 * 4 * 4 is more than 4096.
        self.assertEqual(rules.paper(("left", "on", "far"))[0], "tree")
        self.assertEqual(rules.sure(), tuple(pair for pair in rules.pairs if pair != ("go", "on")))
        more = Rules(works, {**rules.deeds, "end": (1, (("far", 0, 90),))})
        with self.assertRaises(TooMany):
            more.paper(("left", "far", "end"))

    def test_sure(self):
        for rules in small_ones(80):
            courses = all_courses(rules)
            sure = tuple(pair for pair in rules.pairs if not any(pair in plain_left(rules, course) for course in courses))
            self.assertEqual(rules.sure(), sure)

    def test_with_wait(self):
        longer = RULES.with_wait("go", "in", 3)
        self.assertEqual(longer, Rules(WORKS, {"go": (8, (("in", 2, 3), ("near", 1, 4)))}))
        self.assertEqual(RULES.deeds, DEEDS)
        for deed in ("in", "x", "dawn", "", None, 5, True, ["go"], ("go",), {}, RULES):
            with self.assertRaises(UnknownName) as caught:
                RULES.with_wait(deed, "x", -1)
            self.assertTrue(is_same(caught.exception.wanted, deed))
        for feeder in ("go", "x", "dawn", "", None, 5, True, ["in"], ("in",), {}, RULES):
            with self.assertRaises(UnknownName) as caught:
                RULES.with_wait("go", feeder, -1)
            self.assertTrue(is_same(caught.exception.wanted, feeder))
        for wait in (-1, 10 ** 34 + 1, True, None, "3", (3,), [3], 10 ** 59):
            with self.assertRaises(InvalidNumber) as caught:
                RULES.with_wait("go", "in", wait)
            self.assertTrue(is_same(caught.exception.given, wait))
        far = Rules({"w": ("dawn", "x", 1, FAR)}, {"go": (5, (("x", 1, 4),))})
        self.assertEqual(far.with_wait("go", "x", FAR - 5).ticks({"w": FAR})["go"], FAR)
        with self.assertRaises(InvalidDay):
            far.with_wait("go", "x", FAR - 4)


if __name__ == "__main__":
    unittest.main()
