"""The desk: its commands and their answers (points 2 and 42)."""

import itertools
import random
import unittest

from fullseats.desk import Desk, meeting_lines
from fullseats.policies import Road
from fullseats.world import World
from helpers import SAMPLES, picked_deed, picked_programs, read

BAD = ["refused BadCommand"]
LINES = [
    "channel a 2 at 0", "channel b 1 at 1",
    "start [ a 0 / 2 put -5 get ( x ) then new n 3 [ a 0 / 2 put n get ( y ) then stop + b 0 / 1 put x get ( )"
    " then stop ] ]",
    "start [ a 1 / 2 put b get ( x ) then [ a 1 / 2 put 66 get ( y ) then [ b 0 / 1 put y get ( ) then stop ] ] ]",
]
FIRST = ["offers 0 0 0 0 0:0:2 0 -5", "offers 0 1 0 0 0:0:2 1 1:0:1"]
ATTEMPT = "attempt 0:0:2 0/0 1/0"
# All that a desk tells without a change.
QUESTIONS = ["network", "run", "log 0", "log 1", "bars"]


def desk():
    """A desk with a world of the example."""
    return Desk(read(*LINES))


def told(at):
    """All that a desk tells."""
    return [at.tell(question) for question in QUESTIONS]


class DeskCase(unittest.TestCase):
    def says(self, at, line, *expected):
        """The desk answers a line with these lines."""
        answer = at.tell(line)
        self.assertIs(type(answer), list)
        self.assertEqual(answer, list(expected))

    def refuses(self, at, line, name):
        """The desk refuses a line, and nothing changes."""
        before = told(at)
        self.assertEqual(at.tell(line), ["refused " + name], msg=repr(line[:200]))
        self.assertEqual(told(at), before)


class Deeds(DeskCase):
    def test_the_beginning(self):
        at = desk()
        self.says(at, "network", *FIRST)
        self.says(at, "run")
        self.says(at, "log 0")
        self.says(at, "log 1")
        self.says(at, "bars", "0:0:2 0", "1:0:1 0")

    def test_deliver(self):
        at = desk()
        self.says(at, "deliver 1", "ok 2 0")
        self.says(at, "network", FIRST[0], "heard 1 0 0")
        self.says(at, "bars", "0:0:2 0", "1:0:1 0")
        self.says(at, "deliver 0", "ok 2 0")
        self.says(at, "bars", "0:0:2 -", "1:0:1 0")

    def test_drop_and_repeat(self):
        at = desk()
        self.says(at, "drop 0", "ok 1 0")
        self.says(at, "network", FIRST[1])
        self.says(at, "repeat 0", "ok 2 0")
        self.says(at, "network", FIRST[1], FIRST[1])

    def test_tick(self):
        at = desk()
        self.says(at, "tick 1", "ok 3 0")
        self.says(at, "network", *FIRST, FIRST[1])
        self.says(at, "tick", "ok 5 0")
        self.says(at, "network", *FIRST, FIRST[1], *FIRST)
        self.says(at, "tick 0", "ok 6 0")

    def test_attempt(self):
        at = desk()
        for turn in range(4):
            at.tell("deliver 0")
        self.says(at, ATTEMPT, "ok 1 0")
        self.says(at, "network", "ask 0 0 1 0")
        for expected in ("ok 1 0", "ok 1 0", "ok 1 0", "ok 2 1", "ok 3 1", "ok 3 1"):
            self.says(at, "deliver 0", expected)
        self.says(at, "run", "   0 0:0:2     0.0.0=-5 1.0.0=1:0:1")

    def test_attempts_with_one_to_four_pairs(self):
        for seats in range(1, 5):
            names = "u v w".split()[:seats - 1]
            starts = [
                f"start [ a {seat} / {seats} put {seat} get ( {''.join(name + ' ' for name in names)}) then stop ]"
                for seat in range(seats)
            ]
            at = Desk(read(f"channel a {seats} at 0", *starts))
            at.tell(f"drive {2 * seats}")
            pairs = " ".join(f"{machine}/0" for machine in range(seats))
            self.says(at, f"attempt 0:0:{seats} {pairs}", "ok 1 0")
            at.tell("drive 1000")
            parts = "".join(f" {machine}.0.0={machine}" for machine in range(seats))
            self.says(at, "run", f"   0 0:0:{seats}    {parts}")

    def test_drive(self):
        at = desk()
        self.says(at, "drive 0", "ok 2 0")
        self.says(at, "drive 1", "ok 2 0")
        self.says(at, "drive 3", "ok 0 0")
        self.says(at, "drive 1000", "ok 0 3")
        self.says(at, "drive 1000", "ok 0 3")
        self.says(at, "drive " + "9" * 30, "ok 0 3")
        for most in (1, 5, 17, 40):
            other, world = desk(), World(read(*LINES))
            world.drive(Road(), most)
            other.tell(f"drive {most}")
            self.assertEqual(other.tell("network"), world.messages())

    def test_the_deeds_of_any_worlds(self):
        numbers = random.Random(42)
        for program in picked_programs(40, 43):
            at, world = Desk(program), World(program)
            for turn in range(40):
                deed = picked_deed(numbers, world, program.machines)
                try:
                    world.perform(deed)
                    expected = [f"ok {len(world.messages())} {len(world.decided_run())}"]
                except ValueError as error:
                    expected = ["refused " + type(error).__name__]
                self.assertEqual(at.tell(written(deed)), expected)
            self.assertEqual(at.tell("network"), world.messages())


def written(deed):
    """The command of a deed."""
    if deed[0] == "attempt":
        pairs = " ".join(f"{machine}/{place}" for machine, place in deed[2])
        return f"attempt {':'.join(map(str, deed[1]))} {pairs}"
    return "tick" if deed[0] == "tick_all" else f"{deed[0]} {deed[1]}"


class Answers(DeskCase):
    def test_run_and_log(self):
        at = desk()
        at.tell("drive 1000")
        lines = [
            "   0 0:0:2     0.0.0=-5 1.0.0=1:0:1", "   1 0:0:2     0.1.0=0:1:3 1.1.0=66", "   2 1:0:1     1.2.0=0:1:3",
        ]
        self.says(at, "run", *lines)
        self.says(at, "log 0", *lines[:2])
        self.says(at, "log 1", *lines)
        self.says(at, "bars", "0:0:2 0", "0:1:3 0", "1:0:1 0")

    def test_the_index_of_a_log_is_the_turn(self):
        at = Desk(read("channel a 1 at 0", "start [ a 0 / 1 put 1 get ( ) then stop ]",
                       "start [ a 0 / 1 put 2 get ( ) then [ a 0 / 1 put 3 get ( ) then stop ] ]"))
        at.tell("drive 1000")
        self.says(at, "run", "   0 0:0:1     0.0.0=1", "   1 0:0:1     1.0.0=2", "   2 0:0:1     1.1.0=3")
        self.says(at, "log 0", "   0 0:0:1     0.0.0=1")
        self.says(at, "log 1", "   0 0:0:1     1.0.0=2", "   1 0:0:1     1.1.0=3")

    def test_a_meeting_that_is_decided_but_not_in_a_log(self):
        at = desk()
        for turn in range(4):
            at.tell("deliver 0")
        at.tell(ATTEMPT)
        for turn in range(4):
            at.tell("deliver 0")
        self.says(at, "network", "done 0 0 1 0:0:2 0 0 0 -5 1 0 0 1:0:1", "done 1 0 1 0:0:2 0 0 0 -5 1 0 0 1:0:1")
        self.says(at, "run", "   0 0:0:2     0.0.0=-5 1.0.0=1:0:1")
        self.says(at, "log 0")
        self.says(at, "deliver 1", "ok 2 1")
        self.says(at, "log 1", "   0 0:0:2     0.0.0=-5 1.0.0=1:0:1")
        self.says(at, "log 0")

    def test_columns(self):
        at = Desk(SAMPLES["a channel behind each meeting"])
        while len(at.tell("run")) < 102:
            at.tell("drive 400")
        run = at.tell("run")
        self.assertEqual(run[0], "   0 0:0:2     0.0.0=0:1:2 1.0.0=3")
        self.assertEqual(run[9], "   9 0:9:2     0.9.0=0:10:2 1.9.0=3")
        self.assertEqual(run[10], "  10 0:10:2    0.10.0=0:11:2 1.10.0=3")
        self.assertEqual(run[100], " 100 0:100:2   0.100.0=0:101:2 1.100.0=3")
        self.assertEqual(at.tell("log 0"), run)
        self.assertEqual(at.tell("bars")[10], "0:10:2 0")

    def test_an_index_and_a_channel_that_are_longer(self):
        declared = "define f ( c ) new n 2 [ a 0 / 1 put c get ( ) then f ( n ) ]"
        at = Desk(read("channel a 1 at 0", declared, "start f ( 0 )"))
        at.tell("drive 71000")
        run = at.tell("run")
        self.assertGreater(len(run), 10000)
        self.assertEqual(run[9999], "9999 0:0:1     0.9999.0=0:9999:2")
        self.assertEqual(run[10000], "10000 0:0:1     0.10000.0=0:10000:2")
        self.assertEqual(at.tell("log 0"), run)
        self.assertEqual(at.tell("bars")[-1], f"0:{len(run) + 1}:2 0")

    def test_a_channel_that_is_longer_than_its_column(self):
        # It takes very many meetings to come to such a channel: so only the writing of the lines is tried.
        meetings = [((0, 10 ** 4, 2), ((1, 2, 3, 4),)), ((0, 10 ** 5, 2), ((1, 2, 3, (0, 10 ** 5, 1)),))]
        self.assertEqual(meeting_lines(meetings), ["   0 0:10000:2 1.2.3=4", "   1 0:100000:2 1.2.3=0:100000:1"])

    def test_bars(self):
        at = Desk(SAMPLES["six machines"])
        self.says(at, "bars", "0:0:2 0", "3:0:4 0", "5:0:2 0")
        at.tell("drive 26")
        world = World(SAMPLES["six machines"])
        world.drive(Road(), 26)
        expected = []
        for channel in world.all_channels():
            bar = world.bar_on(channel)
            text = "-" if bar is None else ",".join(map(str, bar))
            expected.append(f"{':'.join(map(str, channel))} {text}")
        self.assertEqual(at.tell("bars"), expected)
        self.assertIn("0:0:2 -", expected)

    def test_bars_of_several_seats(self):
        offers = " + ".join(f"a {seat} / 4 put 1 get ( x y z ) then stop" for seat in (0, 2, 3))
        at = Desk(read("channel a 4 at 0", f"start [ {offers} ]",
            f"start [ {offers} + a 1 / 4 put 1 get ( x y z ) then stop ]"))
        at.tell("drive 4")
        self.says(at, "bars", "0:0:4 0,1,2")

    def test_programs_without_channels(self):
        at = Desk(SAMPLES["nothing to do"])
        for question in ("network", "run", "log 0", "bars"):
            self.says(at, question)
        self.says(at, "tick", "ok 0 0")

    def test_answers_can_be_changed(self):
        at = desk()
        for question in QUESTIONS + ["tick", "deliver 99", "what"]:
            at.tell(question).append("something")
        self.says(at, "network", *FIRST, *FIRST)

    def test_two_desks_of_one_program_are_apart(self):
        program = read(*LINES)
        one, other = Desk(program), Desk(program)
        one.tell("drive 1000")
        self.says(other, "network", *FIRST)
        self.refuses(other, "undo", "NothingToUndo")


class Undo(DeskCase):
    def test_nothing_to_undo(self):
        at = desk()
        self.refuses(at, "undo", "NothingToUndo")
        for question in QUESTIONS:
            at.tell(question)
        self.refuses(at, "undo", "NothingToUndo")

    def test_each_kind_of_command(self):
        for line in (
            "deliver 0", "deliver 1", "drop 0", "repeat 1", "tick 0", "tick 1", "tick", "drive 0", "drive 1",
            "drive 30", "drive 1000",
        ):
            at = desk()
            before = told(at)
            at.tell(line)
            self.says(at, "undo", "ok 2 0")
            self.assertEqual(told(at), before)
            self.refuses(at, "undo", "NothingToUndo")
            at = desk()
            at.tell("drive 4")
            before = told(at)
            at.tell(ATTEMPT)
            self.says(at, "undo", "ok 0 0")
            self.assertEqual(told(at), before)
            self.says(at, "undo", "ok 2 0")

    def test_commands_that_changed_nothing(self):
        at = desk()
        at.tell("drive 4")
        at.tell("tick")
        at.tell("drive 0")
        at.tell("tick 1")
        for expected in ("ok 0 0", "ok 0 0", "ok 0 0", "ok 2 0"):
            self.says(at, "undo", expected)
        self.refuses(at, "undo", "NothingToUndo")

    def test_several_one_behind_another(self):
        at = desk()
        lines = ["tick", "drop 1", "repeat 0", "deliver 0", "drive 5", "tick 1", "drive 1000", "tick 0", "drive 3"]
        states = []
        for line in lines:
            states.append(told(at))
            self.assertEqual(at.tell(line)[0][:3], "ok ")
        for state in states[::-1]:
            at.tell("undo")
            self.assertEqual(told(at), state)
        self.refuses(at, "undo", "NothingToUndo")

    def test_behind_refused_lines_and_questions(self):
        at = desk()
        before = told(at)
        at.tell("deliver 0")
        for line in (
            "deliver 99", "tick 5", "what", "attempt 0:0:2 0/0 1/1", "attempt 9:0:2 0/0", "", "log 9", "drive -1",
        ):
            self.assertEqual(at.tell(line)[0].split(" ")[0], "refused")
        for question in QUESTIONS:
            at.tell(question)
        self.says(at, "undo", "ok 2 0")
        self.assertEqual(told(at), before)
        self.refuses(at, "undo", "NothingToUndo")

    def test_behind_an_undo(self):
        at = desk()
        at.tell("drop 0")
        first = told(at)
        at.tell("drop 0")
        at.tell("undo")
        self.assertEqual(told(at), first)
        at.tell("tick 1")
        self.says(at, "undo", "ok 1 0")
        self.assertEqual(told(at), first)
        self.says(at, "undo", "ok 2 0")
        self.refuses(at, "undo", "NothingToUndo")
        self.refuses(at, "undo", "NothingToUndo")
        at.tell("tick")
        self.says(at, "undo", "ok 2 0")

    def test_attempts_are_numbered_as_before(self):
        at = desk()
        at.tell("drive 4")
        for turn in range(3):
            at.tell(ATTEMPT)
            self.says(at, "network", "ask 0 0 1 0")
            at.tell("undo")

    def test_decided_meetings_are_undone(self):
        at = desk()
        at.tell("drive 12")
        self.assertEqual(len(at.tell("run")), 1)
        before = told(at)
        at.tell("drive 1000")
        self.assertEqual(len(at.tell("run")), 3)
        at.tell("undo")
        self.assertEqual(told(at), before)
        self.says(at, "drive 1000", "ok 0 3")

    def test_any_commands(self):
        numbers = random.Random(43)
        for program in picked_programs(30, 44):
            at, states = Desk(program), []
            questions = ["network", "run", "bars"] + [f"log {machine}" for machine in range(program.machines)]
            for turn in range(60):
                before = [at.tell(question) for question in questions]
                if states and numbers.random() < 0.3:
                    self.assertEqual(at.tell("undo")[0][:3], "ok ")
                    self.assertEqual([at.tell(question) for question in questions], states.pop())
                elif at.tell(written(picked_deed(numbers, at.world, program.machines)))[0].startswith("ok "):
                    states.append(before)
            while states:
                at.tell("undo")
                self.assertEqual([at.tell(question) for question in questions], states.pop())
            self.assertEqual(at.tell("undo"), ["refused NothingToUndo"])


class Refused(DeskCase):
    def test_deeds_that_are_not_possible(self):
        at = desk()
        for word in ("deliver", "drop", "repeat"):
            for k in (2, 3, 10 ** 29, 10 ** 30 - 1):
                self.refuses(at, f"{word} {k}", "NoMessage")
        for machine in (2, 3, 10 ** 30 - 1):
            self.refuses(at, f"tick {machine}", "NoMachine")
            self.refuses(at, f"log {machine}", "NoMachine")
        self.refuses(at, ATTEMPT, "NoSeating")
        at.tell("drive 4")
        for line in (
            "attempt 0:0:2 0/0", "attempt 0:0:2 1/0 0/0", "attempt 0:0:2 0/0 1/0 1/0", "attempt 0:0:3 0/0 1/0",
            "attempt 0:1:2 0/0 1/0", "attempt 1:0:1 1/0", "attempt 2:0:2 0/0 1/0", "attempt 0:0:2 0/0 1/0 0/0 1/0",
            "attempt 0:0:2 0/1 1/0", "attempt 0:0:2 0/0 9/0",
        ):
            self.refuses(at, line, "NoSeating")
        at.tell(ATTEMPT)
        self.refuses(at, ATTEMPT, "NoSeating")

    def test_negative_integers_in_an_attempt(self):
        at = desk()
        at.tell("drive 4")
        for line in (
            "attempt -1:0:2 0/0 1/0", "attempt 0:-1:2 0/0 1/0", "attempt 0:0:-2 0/0 1/0", "attempt 0:0:2 -1/0 1/0",
            "attempt 0:0:2 0/-1 1/0", "attempt 0:0:2 0/0 -1/-1", "attempt -2:-2:-2 -2/-2", "attempt 0:0:0 0/0",
            f"attempt {'9' * 30}:-{'9' * 30}:{'9' * 30} -{'9' * 30}/{'9' * 30}",
        ):
            self.refuses(at, line, "NoSeating")

    def test_a_full_network(self):
        at = desk()
        for turn in range(398):
            self.says(at, "repeat 0", f"ok {3 + turn} 0")
        self.refuses(at, "repeat 0", "NetworkFull")
        self.refuses(at, "repeat 400", "NoMessage")
        self.says(at, "tick", "ok 402 0")

    def test_lines_that_are_no_commands(self):
        at = desk()
        at.tell("drive 4")
        for line in (
            "", " ", "  ", "\n", "\t", "delivers 0", "Deliver 0", "DELIVER 0", "deliver", "deliver 0 0", "drop",
            "drop 0 1", "repeat", "repeat 0 0", "tick 0 0", "ticks", "tick_all", "tick all", "drive", "drive 1 1",
            "undo 1", "undo undo", "network 0", "run 0", "run run", "log", "log 0 1", "bars 0", "bar", "messages",
            "attempt", "attempt 0:0:2", "attempt 0:0:2 0/0 1/0 0/0 1/0 0/0", "attempt 0/0 1/0", "attempt 0:0:2 0 0",
            "attempt 0 0 2 0/0 1/0", "help", "stop", "ok", "0", "-1", "deliver -1", "drop -1", "repeat -1", "tick -1",
            "drive -1", "log -1", "deliver 0;", "deliver a", "tick a", "deliver 1.0", "deliver 0x0", "deliver 1_0",
            "deliver \u0660", "deliver \u00b2",
        ):
            self.refuses(at, line, "BadCommand")

    def test_spaces_tabs_and_newlines(self):
        at = desk()
        at.tell("drive 4")
        for line in (
            "deliver 0", "drop 0", "repeat 0", "tick 0", "tick", ATTEMPT, "drive 1", "undo", "network", "run", "log 0",
            "bars",
        ):
            for wrong in (
                " " + line, line + " ", line + "\n", "\n" + line, line + "\t", "\t" + line, line + "\r", line + " \n",
                line.replace(" ", "  "), line.replace(" ", "\t"), line.replace(" ", "\n"), line.replace(" ", " \n"),
                line.replace(" ", ""), line.replace(" ", "\u00a0"), line + "\n" + line, line + " " + line,
            ):
                if wrong != line:
                    self.refuses(at, wrong, "BadCommand")

    def test_spoilt_integers(self):
        at = desk()
        at.tell("drive 4")
        for wrong in (
            "-0", "007", "00", "+1", "1" * 31, "-" + "1" * 31, "", "--1", "1-", "-", "1e1", "1 ", " 1", "1\n", "0/0",
            "0:0:2",
        ):
            for line in (
                "deliver {}", "drop {}", "repeat {}", "tick {}", "drive {}", "log {}", "attempt {}:0:2 0/0 1/0",
                "attempt 0:{}:2 0/0 1/0", "attempt 0:0:{} 0/0 1/0", "attempt 0:0:2 {}/0 1/0", "attempt 0:0:2 0/{} 1/0",
                "attempt 0:0:2 0/0 1/{}",
            ):
                self.refuses(at, line.format(wrong), "BadCommand")

    def test_spoilt_channels_and_pairs(self):
        at = desk()
        at.tell("drive 4")
        for channel in (
            "0:0", "0:0:2:0", "0", ":", "::", "0::2", ":0:2", "0:0:", "0;0;2", "0/0/2", "(0:0:2)", "a", "a:0:2",
        ):
            self.refuses(at, f"attempt {channel} 0/0 1/0", "BadCommand")
        for pair in ("0", "0/", "/0", "/", "0/0/0", "0:0", "0//0", "(0/0)", "0\\0", "a/0", "0/a", "0/0,"):
            self.refuses(at, f"attempt 0:0:2 {pair} 1/0", "BadCommand")
            self.refuses(at, f"attempt 0:0:2 0/0 {pair}", "BadCommand")
            self.refuses(at, f"attempt 0:0:2 {pair}", "BadCommand")

    def test_every_short_line(self):
        words = ["deliver", "tick", "undo", "log", "attempt", "0", "0/0", "0:0:1", ""]
        forms = ["tick", "undo", "deliver 0", "tick 0", "log 0", "attempt 0:0:1 0/0", "attempt 0:0:1 0/0 0/0"]
        for count in range(1, 5):
            for tokens in itertools.product(words, repeat=count):
                line = " ".join(tokens)
                answer = Desk(SAMPLES["nothing to do"]).tell(line)
                self.assertEqual(answer == BAD, line not in forms, msg=line)


if __name__ == "__main__":
    unittest.main()
