"""Desks, points [25] and [26]."""

import random
import unittest

from slipsights.bearing import fewest_marks, widest
from slipsights.cells import ends
from slipsights.deciding import longest, never, shortest
from slipsights.desk import Desk
from slipsights.errors import InvalidCommand, InvalidSite, InvalidText, Mismatch
from slipsights.plans import Plan
from slipsights.sites import Site
from tests.draws import drawn_plan, drawn_site
from tests.samples import any_values

FAULTS = ("barred", "halted", "astray", "endless")
SLIPS = ("back", "ahead", "side")
SITE = "yard 8 1 ; slip 0 1 0 ; room goal 4 0 6 0 ; mark lamp 3 0 5 0 0"
BLIND = "start 0 0 0 ; go east 4 ; stop goal"
ASKS = ["never barred", "longest", "ends goal", "widest ahead barred", "marks astray"]


def state(desk):
    """What can be told of a desk."""
    texts = [None if one is None else str(one) for one in (desk.site, desk.plan)]
    return texts + [len(desk)]


class DeskCase(unittest.TestCase):
    def setUp(self):
        self.desk = Desk()

    def says(self, command, text):
        found = self.desk.say(command)
        self.assertEqual(found, text, command)
        self.assertIs(type(found), str)

    def refuses(self, kind, command):
        """Return the error."""
        before = state(self.desk)
        site, plan = self.desk.site, self.desk.plan
        with self.assertRaises(kind, msg=repr(command)) as caught:
            self.desk.say(command)
        self.assertEqual(state(self.desk), before)
        self.assertIs(self.desk.site, site)
        self.assertIs(self.desk.plan, plan)
        return caught.exception


class TestKeeping(DeskCase):
    def test_at_first_there_is_nothing(self):
        self.assertEqual((self.desk.site, self.desk.plan, len(self.desk)), (None, None, 0))
        self.assertLessEqual({"site", "plan"}, set(vars(self.desk)))
        self.says("undo", "nothing")
        self.assertEqual(state(self.desk), [None, None, 0])

    def test_site(self):
        self.says("site yard 3 2 ; slip 0 0 0", "0")
        self.assertEqual(self.desk.site, Site.read("yard 3 2\nslip 0 0 0"))
        self.says("site yard 8 1 ; slip 0 1 0 ; room goal 4 0 6 0", "1")
        self.says("site yard 8 1 ; slip 0 1 0 ; mark lamp 4 0 6 0 0", "1")
        self.says(f"site {SITE} ; mark sun 0 0 0 0 2", "3")
        self.assertEqual(self.desk.site, Site.read((SITE + " ; mark sun 0 0 0 0 2").replace(" ; ", "\n")))
        self.assertEqual((self.desk.plan, len(self.desk)), (None, 4))

    def test_plan(self):
        self.says("plan start 0 0 0", "0")
        self.says("plan start 0 0 0 ; see lamp ; if x < 3 ; go east 1 ; end ; else ; stop goal ; end", "4")
        self.assertEqual(self.desk.plan, Plan.read("start 0 0 0\nsee lamp\nif x < 3\ngo east 1\nend\nelse\nstop goal\nend"))
        self.assertEqual((self.desk.site, len(self.desk)), (None, 2))

    def test_plans_need_not_fit_when_they_are_kept(self):
        self.says("site yard 2 1 ; slip 0 0 0", "0")
        self.says("plan start 5 0 0 ; stop goal", "1")
        self.says("site yard 9 1 ; slip 0 0 0 ; room goal 0 0 1 0", "1")
        self.says("never barred", "yes")

    def test_signs_are_replaced_from_left_to_right(self):
        self.assertEqual(self.refuses(InvalidText, "plan start 0 0 0 ; ; go east 1").at, 1)
        self.assertEqual(self.refuses(InvalidText, "plan start 0 0 0 ; go east 1 ;").at, 1)
        self.assertEqual(self.refuses(InvalidText, "plan ; start 0 0 0").at, 0)
        self.assertEqual(self.refuses(InvalidText, "plan start 0 0 0 ; go east 1 ; ; ; go east 1").at, 2)
        self.assertEqual(self.refuses(InvalidText, "plan start 0 0 0; go east 1").at, 0)
        self.assertEqual(self.refuses(InvalidText, "site ;").at, 0)
        self.assertEqual(self.refuses(InvalidText, "site ; ; ;").at, 0)
        self.assertEqual(self.refuses(InvalidText, "site yard 3 3").at, 1)

    def test_undo(self):
        self.says("site yard 3 2 ; slip 0 0 0", "0")
        self.says("plan start 0 0 0", "0")
        self.says("plan start 1 1 0", "0")
        self.says("site yard 4 4 ; slip 0 0 0", "0")
        states = [state(self.desk)]
        for _ in range(4):
            self.says("undo", "undone")
            states.append(state(self.desk))
        small, great = "yard 3 2\nslip 0 0 0", "yard 4 4\nslip 0 0 0"
        self.assertEqual(states, [
            [great, "start 1 1 0", 4], [small, "start 1 1 0", 3], [small, "start 0 0 0", 2], [small, None, 1],
            [None, None, 0],
        ])
        self.says("undo", "nothing")
        self.assertEqual(state(self.desk), [None, None, 0])
        self.says("plan start 0 0 0", "0")
        self.assertEqual(len(self.desk), 1)

    def test_the_same_site_again_can_be_taken_back_too(self):
        for many in (1, 2, 3):
            self.says("site yard 3 2 ; slip 0 0 0", "0")
            self.assertEqual(len(self.desk), many)
        self.says("undo", "undone")
        self.assertEqual(state(self.desk), ["yard 3 2\nslip 0 0 0", None, 2])

    def test_questions_cannot_be_taken_back(self):
        self.says(f"site {SITE}", "2")
        self.says(f"plan {BLIND}", "2")
        for command in ASKS * 2:
            self.desk.say(command)
            self.assertEqual(len(self.desk), 2)
        self.says("undo", "undone")
        self.assertIsNone(self.desk.plan)

    def test_two_desks(self):
        other = Desk()
        self.says(f"site {SITE}", "2")
        self.assertEqual((other.site, len(other)), (None, 0))

    def test_not_iterable(self):
        self.says(f"site {SITE}", "2")
        self.assertRaises(TypeError, iter, self.desk)
        self.assertRaises(TypeError, list, self.desk)


class TestAsking(DeskCase):
    def setUp(self):
        super().setUp()
        self.desk.say(f"site {SITE}")
        self.desk.say(f"plan {BLIND}")

    def test_never(self):
        self.says("never barred", "no 5")
        self.says("never astray", "no 5")
        self.says("never halted", "yes")
        self.says("never endless", "yes")
        self.desk.say("plan start 0 0 0 ; stop goal")
        self.says("never astray", "no 1")
        self.desk.say("plan start 0 0 0 ; while x < 4 ; go east 1 ; go west 1 ; end")
        self.says("never endless", "no")
        self.desk.say("plan start 0 0 0 ; go west 1")
        self.says("never halted", "no 1")

    def test_longest(self):
        self.says("longest", "5")
        self.desk.say("plan start 0 0 0")
        self.says("longest", "1")
        self.desk.say("plan start 0 0 0 ; while x < 4 ; go east 1 ; go west 1 ; end")
        self.says("longest", "endless")

    def test_ends(self):
        self.says("ends goal", "4.0 5.0 6.0 7.0")
        self.says("ends barred", "8.0")
        self.says("ends end", "none")
        for word in ("x", "astray", "never", "Goal", "go", "12", ";", "-", "ends", "goal;", "lamp"):
            self.says(f"ends {word}", "none")
        self.desk.say("plan start 0 0 1")
        self.says("ends end", "0.0 1.0")
        self.says("ends barred", "-1.-1 -1.0 -1.1 0.-1 0.1 1.-1 1.1")

    def test_widest(self):
        self.says("widest ahead barred", "0")
        self.says("widest back barred", "none")
        self.desk.say("plan start 0 0 0 ; go east 1")
        self.says("widest ahead barred", "3")
        self.says("widest back barred", "1")
        self.says("widest side barred", "0")
        self.says("widest side halted", "3")
        self.says("widest side endless", "3")

    def test_marks(self):
        self.says("marks barred", "none")
        self.says("marks halted", "-")
        site = "site yard 9 2 ; slip 0 0 0 ; room goal 4 0 8 1 ; mark sun 0 0 8 1 0 ; mark lamp 0 0 8 1 0"
        self.says(site, "3")
        self.desk.say("plan start 0 0 0 ; see sun ; go east 4 ; end ; stop goal")
        self.says("marks astray", "sun")
        self.desk.say("plan start 0 0 0 ; see sun ; see lamp ; go east 4 ; end ; end ; stop goal")
        self.says("marks astray", "lamp sun")
        self.desk.say("plan start 0 0 0 ; stop goal")
        self.says("marks astray", "none")
        self.says("marks endless", "-")

    def test_a_plan_without_rows_is_a_plan(self):
        self.says("plan start 0 0 0", "0")
        self.says("never barred", "yes")
        self.says("ends end", "0.0")
        self.says("marks halted", "-")

    def test_the_same_question_has_the_same_answer(self):
        first = [self.desk.say(command) for command in ASKS]
        self.desk.say("plan start 0 0 0")
        self.desk.say("undo")
        self.assertEqual([self.desk.say(command) for command in ASKS], first)

    def test_by_name(self):
        self.assertEqual(self.desk.say(command="never barred"), "no 5")

    def test_drawn_sites_and_plans(self):
        draw = random.Random(41)
        for _ in range(60):
            site = drawn_site(draw)
            plan = drawn_plan(draw, site, 1, 7)
            self.says("site " + str(site).replace("\n", " ; "), str(len(site.rooms) + len(site.marks)))
            self.says("plan " + str(plan).replace("\n", " ; "), str(len(plan)))
            self.assertEqual((self.desk.site, self.desk.plan), (site, plan))
            self.answers(site, plan)

    def answers(self, site, plan):
        for fault in FAULTS:
            comes = "no" if fault == "endless" else f"no {len(shortest(site, plan, fault) or ())}"
            self.says(f"never {fault}", "yes" if never(site, plan, fault) else comes)
            for slip in SLIPS:
                self.says(f"widest {slip} {fault}", str(widest(site, plan, [fault], slip)).lower())
            names = fewest_marks(site, plan, [fault])
            self.says(f"marks {fault}", "none" if names is None else " ".join(names) or "-")
        most = longest(site, plan)
        self.says("longest", "endless" if most is None else str(most))
        for word in ("a", "b", "end", "barred", "halted", "x"):
            self.says(f"ends {word}", str(ends(site, plan, word)))


class TestWrongCommands(DeskCase):
    WRONG = [
        "", " ", "  ", "\n", ";", " ; ", "x", "sites", "Site", "SITE yard 3 3 ; slip 0 0 0", "yard 3 3 ; slip 0 0 0",
        "site", "plan", "site ", "plan ", " undo", "undo ", "undo x", "undo undo", "Undo", "redo",
        "never", "never ", "never x", "never Barred", "never barred x", "never  barred", " never barred", "never barred ",
        "never goal", "never never", "never end", "never barred halted", "never barred,halted", "never None",
        "longest x", "longest ", "longest endless", " longest", "Longest",
        "ends", "ends ", "ends x y", "ends  x", "ends barred ", "end barred",
        "widest", "widest ahead", "widest barred", "widest ahead barred x", "widest barred ahead", "widest up barred",
        "widest ahead x", "widest  ahead barred", "widest ahead barred halted", "widest ahead  barred", "widest 0 barred",
        "marks", "marks ", "marks x", "marks barred halted", "marks lamp", "mark barred",
        "shortest barred", "alike", "stands 0", "drift 0", "play", "cells",
        "never barred\n", "\nundo", "undo\n", "ends a\nb", "never\nbarred", "longest\n",
        "site yard 3 3\nslip 0 0 0", "plan start 0 0 0\n", "plan start 0 0 0\ngo east 1", "site yard 3 3 ; slip 0 0 0\n",
        "site  yard 3 3 ; slip 0 0 0", "site yard 3 3  ; slip 0 0 0", "site yard 3 3 ; slip 0 0 0 ", " site yard 3 3 ; slip 0 0 0",
        "plan start 0 0 0 ;  go east 1", "plan  start 0 0 0", "plan start 0 0 0 ; ",
    ]

    def all(self):
        for command in self.WRONG:
            self.refuses(InvalidCommand, command)

    def test_without_site_and_plan(self):
        self.all()

    def test_with_both(self):
        self.desk.say(f"site {SITE}")
        self.desk.say(f"plan {BLIND}")
        self.all()

    def test_any_values(self):
        for before in (None, f"site {SITE}", f"plan {BLIND}"):
            if before is not None:
                self.desk.say(before)
            for value in any_values():
                self.refuses(InvalidCommand, value)

    def test_questions_without_site_or_plan(self):
        for commands in ([], [f"site {SITE}"], [f"plan {BLIND}"], [f"plan {BLIND}", f"plan {BLIND}"]):
            desk = self.desk = Desk()
            for command in commands:
                desk.say(command)
            for command in ASKS + ["never endless", "ends x"]:
                self.refuses(InvalidCommand, command)
        self.desk.say(f"site {SITE}")
        self.says("never barred", "no 5")
        self.says("undo", "undone")
        self.refuses(InvalidCommand, "never barred")

    def test_wrong_texts(self):
        for _ in range(2):
            for text, at in [
                ("x", 0), ("yard 0 3 ; slip 0 0 0", 0), ("yard 3 3", 1), ("yard 3 3 ; slip 0 0", 1),
                ("yard 3 3 ; slip 0 0 0 ; room go 0 0 1 1", 2), ("yard 3 3 ; slip 0 0 0 ; mark a 0 0 0 0 0 ; room a 0 0 0 0", 3),
                ("never barred", 0), ("site yard 3 3 ; slip 0 0 0", 0), (BLIND, 0),
            ]:
                self.assertEqual(self.refuses(InvalidText, f"site {text}").at, at)
            for text, at in [
                ("x", 0), ("start 0 0", 0), ("start 0 0 -1", 0), ("start 0 0 0 ; go up 1", 1), ("start 0 0 0 ; if x < 1", 2),
                ("start 0 0 0 ; while x < 1 ; end", 2), ("start 0 0 0 ; stop Goal", 1), ("undo", 0), (SITE, 0),
            ]:
                self.assertEqual(self.refuses(InvalidText, f"plan {text}").at, at)
            error = self.refuses(InvalidSite, "site yard 3 3 ; slip 0 0 0 ; room a 0 0 0 0 ; barred a 0 0 1 1")
            self.assertEqual(error.word, "name")
            self.desk.say(f"site {SITE}")
            self.desk.say(f"plan {BLIND}")

    def test_plans_that_do_not_fit(self):
        self.desk.say(f"site {SITE}")
        for rows, name in [
            ("start 8 0 0", "start"), ("start 0 0 0 ; stop none", "none"), ("start 0 0 0 ; see goal ; end", "goal"),
        ]:
            self.desk.say(f"plan {rows}")
            for command in ASKS + ["never endless", "marks halted", "widest side halted", "ends x"]:
                self.assertEqual(self.refuses(Mismatch, command).name, name)
            for command in ("never x", "ends", "widest up barred"):
                self.refuses(InvalidCommand, command)
            self.says("undo", "undone")


if __name__ == "__main__":
    unittest.main()
