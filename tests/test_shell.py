"""The shell: stage 23, [23.3]."""

import random
import unittest

from dawnway.errors import (
    InvalidNet, InvalidNumber, InvalidOperation, NothingToUndo, ParseError, TooMany, UnknownName,
)
from dawnway.live.day import is_beginning, rest, verdict, verdicts
from dawnway.mends.spare import spare
from dawnway.net.nets import Net
from dawnway.rule.tables import closure, is_safe
from dawnway.text.formats import write_day, write_net
from dawnway.text.shell import Shell
from tests.helpers import is_same, odd_values

FAR = 10 ** 40 - 1
START = ("event in 9", "event on 12", "event off 20", "work fly dawn in 2 5 0", "work load in on 1 3 0",
         "bound slot dawn off 6", "bound ready off on 0", "bound turn in on 3")
NET = Net({"in": 9, "on": 12, "off": 20}, {"fly": ("dawn", "in", 2, 5, 0), "load": ("in", "on", 1, 3, 0)},
          {"slot": ("dawn", "off", 6), "ready": ("off", "on", 0), "turn": ("in", "on", 3)})


def shell_of(*lines):
    shell = Shell()
    for line in lines:
        assert shell(line) == "done"
    return shell


def state(shell):
    """All that a shell tells of itself."""
    parts = [str(shell), shell("log")]
    if str(shell) != "shell ahead: 0 events":
        parts += [shell("net"), shell("day")]
    return parts


def answers(shell):
    """What all commands that ask are told."""
    found = []
    for line in ("answer", "verdicts", "verdict slot", "spare fly", "windows on,in", "log"):
        try:
            found.append(shell(line))
        except (InvalidNet, UnknownName, InvalidOperation, TooMany) as error:
            found.append(repr(error))
    return found


class ShellTest(unittest.TestCase):
    def fails(self, shell, line, error, attribute=None, value=None):
        """The command raises, and changes nothing."""
        before, twin = state(shell), answers(shell)
        with self.assertRaises(error, msg=line) as caught:
            shell(line)
        self.assertIs(type(caught.exception), error, line)
        if attribute is not None:
            self.assertTrue(is_same(getattr(caught.exception, attribute), value), line)
        self.assertEqual((state(shell), answers(shell)), (before, twin))

    def parse_fails(self, shell, *lines):
        for line in lines:
            self.fails(shell, line, ParseError, "line", None)


class CommandTest(ShellTest):
    def test_without_a_net(self):
        shell = Shell()
        self.assertEqual((str(shell), shell("log")), ("shell ahead: 0 events", ""))
        for line in ("work w dawn a 1 2 0", "bound b dawn a 3", "drop event a", "drop work w", "drop bound b", "seen 3 a", "seen -1 -", "dawn",
                     "net", "day", "answer", "verdict x", "verdicts", "spare w", "spare -", "windows a", "windows -"):
            self.fails(shell, line, InvalidNet)
        self.fails(shell, "undo", NothingToUndo, "wanted", 0)
        self.fails(shell, "redo", NothingToUndo, "wanted", 0)
        for line in ("event dawn 3", "event a -1", f"event a {10 ** 30 + 1}"):
            self.fails(shell, line, InvalidNet)
        self.assertEqual(shell("event a 3"), "done")
        self.assertEqual((str(shell), shell("net"), shell("day")), ("shell ahead: 1 events", "event a 3", "ahead"))
        self.assertEqual(shell("undo"), "done")
        self.fails(shell, "net", InvalidNet)
        self.assertTrue(shell == Shell())

    def test_lines_that_are_no_command(self):
        for shell in (Shell(), shell_of(*START, "seen 3 in")):
            for value in odd_values():
                if value != "dawn":
                    self.parse_fails(shell, value)
            self.parse_fails(shell, "event", "event a", "event a 3 4", " event a 3", "event a 3 ", "event  a 3", "event a 03", "event a +3", "event a x",
                             "event A 3", "event a,b 3", "event - 3", "event a 3\n", "\nevent a 3", "Event a 3", "EVENT a 3", f"event a {FAR + 1}",
                             "work w dawn a 1 2", "work w dawn a 1 2 0 0", "work w dawn a one 2 0", "work 1 dawn a 1 2 0", "work w dawn - 1 2 0",
                             "bound b dawn a", "bound b dawn a x", "bound b dawn a 1 2", "bound b 1 a 3", "drop", "drop event", "drop a", "drop net a",
                             "drop events a", "drop event a b", "drop event a,b", "drop event 3", "seen", "seen 3", "seen a 3", "seen 3 a b", "seen 3 a,",
                             "seen 3 ,a", "seen 3 a,,b", "seen 3 a,a", "seen 3 a,b,a", "seen 3 ", "seen 3 -,a", "seen 3 --", "seen 03 a", "dawn a", "dawn ",
                             "undo 1", "redo 1", "net a", "day 3", "answer x", "verdict", "verdict a b", "verdict a,b", "verdict -", "verdicts a", "spare",
                             "spare a b", "spare a,a", "windows", "windows a a", "windows a,a", "log 1", "help", "quit", "show net", "",
                             "event " + "x" * 13 + " 3", "event a 3;event b 4", "event\ta\t3", "seen 3 dawn,dawn")

    def test_changes_of_the_net(self):
        shell = shell_of(*START)
        self.assertEqual((shell("net"), str(shell)), (write_net(NET), "shell ahead: 3 events"))
        self.assertEqual(shell("event in 8"), "done")
        self.assertEqual(shell("work fly dawn in 3 4 0"), "done")
        self.assertEqual(shell("bound slot off in -2"), "done")
        net = Net({**NET.lasts, "in": 8}, {**NET.works, "fly": ("dawn", "in", 3, 4, 0)}, {**NET.bounds, "slot": ("off", "in", -2)})
        self.assertEqual(shell("net"), write_net(net))
        self.assertEqual([shell("drop bound slot"), shell("drop work load"), shell("drop bound ready"), shell("drop event off")], ["done"] * 4)
        self.assertEqual(shell("net"), "event in 8\nevent on 12\nwork fly dawn in 3 4 0\nbound turn in on 3")

    def test_what_would_be_no_net(self):
        shell = shell_of(*START)
        for line in ("event dawn 3", "event in -1", f"event in {FAR}", "work fly dawn in 0 5 0", "work fly dawn in 6 5 0", "work fly dawn in 2 5 21",
                     "work fly dawn dawn 2 5 0", "work fly in in 2 5 0", "work new dawn in 2 5 0", "work dawn dawn off 1 2 0", "work fly on in 2 5 0",
                     "work fly dawn in 2 5 1", "bound slot on on 3", "bound dawn dawn on 3", "drop event in", "drop event on", "drop event off"):
            self.fails(shell, line, InvalidNet)
        one = shell_of("event a 3")
        self.fails(one, "drop event a", InvalidNet)

    def test_names_that_are_not_there(self):
        shell = shell_of(*START)
        for line, name in (("work w x y 1 2 0", "x"), ("work w dawn y 1 2 0", "y"), ("work w fly slot 0 0 0", "fly"), ("bound b x y 3", "x"),
                           ("bound b dawn y 3", "y"), ("bound b slot y 3", "slot"), ("drop event x", "x"), ("drop work in", "in"), ("drop bound fly", "fly"),
                           ("drop event dawn", "dawn"), ("drop work dawn", "dawn"), ("drop bound dawn", "dawn"), ("seen -1 x,y", "x"), ("seen 3 in,y", "y"),
                           ("seen 3 fly", "fly"), ("verdict x", "x"), ("verdict in", "in"), ("verdict dawn", "dawn"), ("spare x,y", "x"),
                           ("spare fly,in", "in"), ("spare dawn", "dawn"), ("windows x", "x"), ("windows in,y,x", "y"), ("windows slot", "slot")):
            self.fails(shell, line, UnknownName, "wanted", name)

    def test_dawn_is_no_event_to_be_seen(self):
        shell = shell_of(*START)
        for line, name in (("seen 3 dawn", "dawn"), ("seen 3 in,dawn", "dawn"), ("seen 3 dawn,in", "dawn"), ("seen 0 dawn", "dawn"), ("seen -1 dawn", "dawn"),
                           (f"seen {FAR} dawn", "dawn"), ("seen 3 dawn,x", "dawn"), ("seen 3 x,dawn", "x"), ("seen 9 off,dawn", "dawn")):
            self.fails(shell, line, UnknownName, "wanted", name)
        self.assertEqual(shell("seen 3 in"), "done")
        # It is told ahead of a tick that is none greater, and of what is no beginning.
        for line in ("seen 3 dawn", "seen 2 dawn", "seen 4 in,dawn", "seen 5 dawn", "seen 5 dawn,on", "seen 9 dawn"):
            self.fails(shell, line, UnknownName, "wanted", "dawn")
        self.fails(shell, "seen 3 y,dawn", UnknownName, "wanted", "y")
        self.assertEqual([shell("seen 5 on"), shell("day")], ["done", "at 5\nseen 3 in\nseen 5 on"])
        self.fails(Shell(), "seen 3 dawn", InvalidNet)
        self.parse_fails(shell, "seen x dawn", "seen 6 dawn,dawn")

    def test_dawn_has_no_window(self):
        barred = shell_of(*START, "bound slot dawn off 5", "seen 3 in")
        self.assertEqual(barred("windows on"), "barred")
        other = shell_of("event a 5", "event b 5", "bound deed.x a b 5")
        self.fails(other, "windows a", InvalidOperation)
        # It is told ahead of the errors of the rest, too.
        for shell in (shell_of(*START), shell_of(*START, "seen 3 in"), barred):
            for line, name in (("windows dawn", "dawn"), ("windows in,dawn", "dawn"), ("windows dawn,on,in", "dawn"), ("windows dawn,x", "dawn"),
                               ("windows x,dawn", "x"), ("windows in,x,dawn", "x")):
                self.fails(shell, line, UnknownName, "wanted", name)
        self.fails(other, "windows a,dawn", UnknownName, "wanted", "dawn")
        self.fails(Shell(), "windows dawn", InvalidNet)
        self.parse_fails(other, "windows dawn,dawn")
        self.assertEqual(shell_of("event a 5", "event b 7")("windows b,a"), "b 0 7\na 0 5")

    def test_dawn_in_works_and_bounds(self):
        shell = shell_of("event a 5", "event b 7", "work w dawn a 1 2 0", "bound x dawn b 6", "bound y b dawn -1")
        self.assertEqual(shell("windows a,b"), "a 1 2\nb 1 6")
        self.fails(shell, "work v dawn dawn 1 2 0", InvalidNet)
        self.fails(shell, "bound z dawn dawn 1", InvalidNet)

    def test_the_beginning(self):
        shell = shell_of(*START)
        self.assertEqual(shell("seen 3 in"), "done")
        self.assertEqual((shell("day"), str(shell)), ("at 3\nseen 3 in", "shell at 3: 3 events"))
        for line, tick in (("seen 3 -", 3), ("seen 2 -", 2), ("seen -4 on", -4), (f"seen {10 ** 34 + 1} -", 10 ** 34 + 1)):
            self.fails(shell, line, InvalidNumber, "given", tick)
        for line in ("seen 7 -", "seen 7 on", "seen 4 in", "seen 4 in,on"):
            self.fails(shell, line, InvalidOperation)
        self.assertEqual([shell("seen 4 -"), shell("seen 6 on,off")], ["done", "done"])
        self.assertEqual(shell("day"), "at 6\nseen 3 in\nseen 6 off\nseen 6 on")
        self.assertEqual([shell("dawn"), shell("day"), str(shell)], ["done", "ahead", "shell ahead: 3 events"])
        self.assertEqual(shell("dawn"), "done")
        self.fails(shell, "seen 9 -", InvalidOperation)
        self.fails(shell, "seen -1 -", InvalidNumber, "given", -1)

    def test_changes_of_the_net_behind_a_beginning(self):
        shell = shell_of(*START, "seen 3 in", "seen 5 on")
        for line in ("work fly dawn in 4 5 0", "work fly dawn in 2 5 0", "drop work fly", "work load in on 3 4 0"):
            if line in ("work fly dawn in 2 5 0", "drop work fly"):
                continue
            self.fails(shell, line, InvalidOperation)
        # What would be no net is told first.
        self.fails(shell, "drop event on", InvalidNet)
        self.assertEqual([shell("work fly dawn in 3 3 0"), shell("bound slot dawn off 4"), shell("event new 7")], ["done"] * 3)
        # Without its work, the end is a deed that came at this tick.
        self.assertEqual([shell("drop work load"), shell("day")], ["done", "at 5\nseen 3 in\nseen 5 on"])
        self.fails(shell, "work late dawn new 1 5 0", InvalidOperation)
        self.assertEqual(shell("work late dawn new 1 6 0"), "done")
        self.fails(shell, "work load in on 1 1 0", InvalidOperation)
        self.fails(shell, "work load off on 1 2 0", InvalidOperation)
        self.assertEqual([shell("dawn"), shell("work load off on 1 2 0")], ["done", "done"])
        shell = shell_of("event a 5", "event b 5", "seen 3 a")
        self.fails(shell, "drop event a", InvalidOperation)
        self.assertEqual(shell("drop event b"), "done")

    def test_asking(self):
        shell = shell_of(*START, "seen 3 in")
        net, seen = NET, ((3, "in"),)
        left = rest(net, 3, seen)
        self.assertEqual(shell("net"), write_net(net))
        self.assertEqual(shell("day"), write_day(net, 3, seen))
        self.assertEqual(shell("answer"), "safe" if is_safe(left) else "barred")
        told = verdicts(net, 3, seen)
        self.assertEqual(shell("verdicts"), "\n".join(f"{name} {told[name]}" for name in sorted(told)))
        for name in told:
            self.assertEqual(shell(f"verdict {name}"), verdict(net, 3, seen, name))
        self.assertEqual(shell("windows on,in"), "on 4 6\nin 3 3")
        barred = shell_of(*START, "bound slot dawn off 5", "seen 3 in")
        self.assertEqual([barred("answer"), barred("verdicts"), barred("windows on,in"), barred("windows -"), barred("spare load")],
                         ["barred", "ready luck\nslot luck\nturn luck", "barred", "barred", "none"])

    def test_asking_a_safe_one(self):
        shell = shell_of(*START, "drop bound slot", "seen 3 in")
        net, seen = NET.without("slot"), ((3, "in"),)
        left = rest(net, 3, seen)
        bounds, _ = closure(left)
        self.assertEqual(shell("answer"), "safe")
        for works in ("load", "fly", "load,fly", "fly,load"):
            self.assertEqual(shell(f"spare {works}"), str(spare(left, tuple(sorted(works.split(","))))))
        for events in (("on",), ("on", "in", "off"), ("off", "on")):
            told = [f"{event} {-bounds[(event, 'dawn')]} {bounds[('dawn', event)]}" for event in events]
            self.assertEqual(shell("windows " + ",".join(events)), "\n".join(told))
        self.assertEqual(shell("windows -"), "")
        self.fails(shell, "spare -", InvalidOperation)
        self.assertEqual(shell_of("event a 3")("verdicts"), "")

    def test_asking_changes_nothing(self):
        shell = shell_of(*START, "seen 3 in", "undo")
        before = state(shell)
        for line in ("net", "day", "answer", "verdict slot", "verdicts", "spare fly", "windows in", "log"):
            shell(line)
        self.assertEqual(state(shell), before)
        # Not even what can be done again.
        self.assertEqual(shell("redo"), "done")

    def test_bounds_that_bar_a_rest(self):
        shell = shell_of("event a 5", "event b 5", "bound deed.x a b 5")
        for line in ("answer", "verdicts", "verdict deed.x", "windows a"):
            self.fails(shell, line, InvalidOperation)
        self.assertEqual((shell("net"), shell("day"), shell("seen 3 a")), ("event a 5\nevent b 5\nbound deed.x a b 5", "ahead", "done"))
        shell = shell_of("event a 5", "work w dawn a 1 2 0", *[f"bound b{index} dawn a 5" for index in range(201)])
        for line in ("answer", "verdicts", "verdict b0", "windows a", "spare w"):
            self.fails(shell, line, TooMany, "limit", 200)
        self.fails(shell, "verdict x", UnknownName, "wanted", "x")
        self.assertEqual([shell("drop bound b7"), shell("answer")], ["done", "safe"])

    def test_the_whole_document_of_commands(self):
        # Each name of a command alone is a command only if it takes nothing.
        shell = shell_of(*START)
        for word in ("net", "day", "answer", "verdicts", "log", "dawn", "undo"):
            self.assertIsInstance(shell(word), str)
        self.parse_fails(shell, "event", "work", "bound", "drop", "seen", "verdict", "spare", "windows")


class UndoTest(ShellTest):
    def test_undo_and_redo(self):
        shell = Shell()
        states = [state(shell)]
        lines = [*START, "seen 3 in", "seen 5 on", "event new 4", "drop bound turn", "dawn", "drop work fly"]
        for line in lines:
            shell(line)
            states.append(state(shell))
        for told in states[-2::-1]:
            self.assertEqual(shell("undo"), "done")
            self.assertEqual(state(shell), told)
        self.fails(shell, "undo", NothingToUndo, "wanted", 0)
        for told in states[1:]:
            self.assertEqual(shell("redo"), "done")
            self.assertEqual(state(shell), told)
        self.fails(shell, "redo", NothingToUndo, "wanted", 0)

    def test_a_command_behind_what_was_undone(self):
        shell = shell_of("event a 3", "event b 4", "undo", "event c 5")
        self.fails(shell, "redo", NothingToUndo, "wanted", 0)
        self.assertEqual((shell("log"), shell("net")), ("event a 3\nevent c 5", "event a 3\nevent c 5"))
        # A command that raises, or asks, leaves what can be done again.
        shell = shell_of("event a 3", "event b 4", "undo")
        self.fails(shell, "event dawn 3", InvalidNet)
        self.fails(shell, "x", ParseError)
        shell("net")
        self.assertEqual((shell("redo"), shell("net")), ("done", "event a 3\nevent b 4"))
        # One that leaves all equal counts.
        shell = shell_of("event a 3", "event b 4", "undo", "event a 3")
        self.fails(shell, "redo", NothingToUndo, "wanted", 0)
        self.assertEqual(shell("log"), "event a 3\nevent a 3")

    def test_changes_that_leave_all_equal(self):
        shell = shell_of("event a 3", "event a 3", "dawn", "dawn")
        self.assertEqual(shell("log"), "event a 3\nevent a 3\ndawn\ndawn")
        for _ in range(3):
            self.assertEqual((shell("undo"), shell("net")), ("done", "event a 3"))
        self.assertEqual((shell("undo"), str(shell), shell("log")), ("done", "shell ahead: 0 events", ""))

    def test_a_hundred_and_one_changes(self):
        lines = [f"event a {index}" for index in range(101)]
        shell = shell_of(*lines)
        for index in range(99, -1, -1):
            self.assertEqual((shell("undo"), shell("net")), ("done", f"event a {index}"))
        self.fails(shell, "undo", NothingToUndo, "wanted", 0)
        self.assertEqual(shell("log"), "event a 0")
        for _ in range(100):
            self.assertEqual(shell("redo"), "done")
        self.fails(shell, "redo", NothingToUndo, "wanted", 0)
        self.assertEqual((shell("net"), shell("log")), ("event a 100", "\n".join(lines)))
        exact = shell_of(*lines[:100])
        for _ in range(100):
            exact("undo")
        self.assertEqual(str(exact), "shell ahead: 0 events")
        self.fails(exact, "undo", NothingToUndo, "wanted", 0)

    def test_undo_and_redo_by_turns_at_the_limit(self):
        shell = shell_of(*[f"event a {index}" for index in range(150)])
        for _ in range(60):
            shell("undo")
        for _ in range(30):
            shell("redo")
        shell("event b 1")
        many = 0
        while True:
            try:
                shell("undo")
                many += 1
            except NothingToUndo:
                break
        self.assertEqual((many, shell("net")), (71, "event a 49"))

    def test_against_a_plain_shell(self):
        for seed in range(25):
            rng = random.Random(seed)
            shell, past, undone, log, now = Shell(), [], [], [], Shell()
            for _ in range(150):
                line = self.some_line(rng)
                if line in ("undo", "redo"):
                    stack, other = (past, undone) if line == "undo" else (undone, past)
                    if not stack:
                        self.fails(shell, line, NothingToUndo, "wanted", 0)
                        continue
                    if line == "undo":
                        undone.append((log.pop(), now))
                        now = past.pop()
                    else:
                        told, later = undone.pop()
                        past.append(now)
                        log.append(told)
                        now = later
                    self.assertEqual(shell(line), "done")
                else:
                    twin = shell_of(*self.lines_of(now))
                    try:
                        right = twin(line)
                    except (InvalidNet, InvalidOperation, InvalidNumber, UnknownName) as error:
                        self.fails(shell, line, type(error))
                        continue
                    self.assertEqual(shell(line), right)
                    past, undone, now = [*past, now][-100:], [], twin
                    log.append(line)
                self.assertTrue(shell == now)
                self.assertEqual((str(shell), shell("log")), (str(now), "\n".join(log)))

    def lines_of(self, shell):
        """Commands that lead to the net and the beginning of a shell."""
        if str(shell) == "shell ahead: 0 events":
            return []
        tick, *seen = shell("day").split("\n")
        lines = shell("net").split("\n")
        if tick == "ahead":
            return lines
        at = int(tick.split(" ")[1])
        ticks = {}
        for line in seen:
            ticks.setdefault(int(line.split(" ")[1]), []).append(line.split(" ")[2])
        lines += [f"seen {when} {','.join(ticks[when])}" for when in sorted(ticks)]
        return lines if at in ticks else [*lines, f"seen {at} -"]

    def some_line(self, rng):
        names, works, bounds = "abc", "vw", "xyz"
        return rng.choice([
            f"event {rng.choice(names)} {rng.randint(3, 9)}", f"event {rng.choice(names)} {rng.randint(3, 9)}",
            f"work {rng.choice(works)} {rng.choice(['dawn', *names])} {rng.choice(names)} {rng.randint(1, 2)} {rng.randint(1, 4)} {rng.randint(0, 1)}",
            f"bound {rng.choice(bounds)} {rng.choice(['dawn', *names])} {rng.choice(names)} {rng.randint(-3, 6)}",
            f"drop event {rng.choice(names)}", f"drop work {rng.choice(works)}", f"drop bound {rng.choice(bounds)}",
            f"seen {rng.randint(0, 5)} {rng.choice(['-', *names, 'a,b', 'c,a'])}", "dawn", "undo", "undo", "redo", "redo",
        ])


class EqualTest(ShellTest):
    def test_equality(self):
        shell = shell_of(*START, "seen 3 in")
        twin = shell_of(*START, "event new 3", "drop event new", "seen 2 -", "dawn", "seen 3 in")
        self.assertTrue(shell == twin)
        self.assertFalse(shell != twin)
        self.assertTrue(Shell() == Shell())
        for other in (Shell(), shell_of(*START), shell_of(*START, "seen 4 in"), shell_of(*START, "seen 3 in", "seen 4 -"),
                      shell_of(*START, "event in 8", "seen 3 in"), NET, "shell", *odd_values()):
            self.assertFalse(shell == other)
            self.assertTrue(shell != other)
        self.assertFalse(Shell() == shell_of("event a 3"))
        with self.assertRaises(TypeError):
            iter(shell)

    def test_the_log_taken_by_a_new_shell(self):
        for seed in range(25):
            rng = random.Random(seed)
            shell = Shell()
            for _ in range(60):
                try:
                    shell(UndoTest.some_line(self, rng))
                except (InvalidNet, InvalidOperation, InvalidNumber, UnknownName, NothingToUndo):
                    pass
            other = Shell()
            for line in shell("log").split("\n") if shell("log") else []:
                self.assertEqual(other(line), "done")
            self.assertTrue(shell == other)
            self.assertEqual((other("log"), state(other)), (shell("log"), state(shell)))
            before, many = state(shell), 0
            while True:
                try:
                    shell("undo")
                    many += 1
                except NothingToUndo:
                    break
            for _ in range(many):
                shell("redo")
            self.assertEqual(state(shell), before)

    def test_two_shells_share_nothing(self):
        one, other = Shell(), Shell()
        one("event a 3")
        self.assertEqual(str(other), "shell ahead: 0 events")
        other("event b 4")
        self.assertEqual((one("net"), other("net")), ("event a 3", "event b 4"))

    def test_the_beginning_is_always_one_of_the_net(self):
        shell = shell_of(*START, "seen 3 in", "work fly dawn in 3 3 0")
        net = Net(NET.lasts, {**NET.works, "fly": ("dawn", "in", 3, 3, 0)}, NET.bounds)
        self.assertTrue(is_beginning(net, 3, ((3, "in"),)))
        self.assertEqual(shell("answer"), "barred" if not is_safe(rest(net, 3, ((3, "in"),))) else "safe")


if __name__ == "__main__":
    unittest.main()
