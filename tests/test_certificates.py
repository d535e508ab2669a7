"""Certificates, points [19] and [20]; a comparison with a plain search is in test_search.py."""

import unittest

from slipsights.certificates import certificate, certificate_holds
from slipsights.errors import Mismatch
from slipsights.plans import Plan
from slipsights.sites import Site
from slipsights.spans import Span
from tests import samples
from tests.search import is_right

BIG = 10 ** 24 + 7
FAULTS = ("barred", "halted", "astray")


def site_of(text):
    return Site.read(text.replace(" ; ", "\n"))


def plan_of(text):
    return Plan.read(text.replace(" ; ", "\n"))


def at(belief, place=None):
    """The bounds of a single pair in one direction."""
    place = belief if place is None else place
    return ((belief, belief), (place, place), (place - belief, place - belief))


def bounds(belief, place, error):
    """The tight bounds of a span that is not empty."""
    span = Span(belief, place, error)
    assert span
    return (span.belief, span.place, span.error)


class CertificateCase(unittest.TestCase):
    def holds(self, site, rows, fault, *entries):
        self.assertIs(certificate_holds(site, plan_of(rows), fault, entries), True)

    def fails(self, site, rows, fault, *entries):
        self.assertIs(certificate_holds(site, plan_of(rows), fault, entries), False)

    def shown(self, site, rows, *faults):
        """There is a certificate, and it is right."""
        plan = plan_of(rows)
        for fault in faults:
            found = certificate(site, plan, fault)
            self.formed(plan, found)
            self.assertIs(certificate_holds(site, plan, fault, found), True)
            self.assertTrue(is_right(site, plan, fault, found))

    def formed(self, plan, value):
        self.assertIs(type(value), tuple)
        for entry in value:
            self.assertEqual([type(part) for part in entry], [int, int, tuple, tuple])
            self.assertIs(type(entry), tuple)
            for part in entry[2:]:
                self.assertEqual([type(one) for one in part], [tuple] * 3)
                self.assertEqual(bounds(*part), part)

    def none(self, site, rows, *faults):
        for fault in faults:
            self.assertIsNone(certificate(site, plan_of(rows), fault))


class TestCertificate(CertificateCase):
    def setUp(self):
        self.site = site_of(
            "yard 9 5 ; slip 0 1 0 ; room goal 6 0 8 4 ; barred pit 4 2 4 2 ; mark lamp 3 0 8 4 0 ; mark sun 0 0 8 4 1"
        )

    def test_faults_that_never_come(self):
        self.shown(self.site, "start 0 1 0 ; go east 4", *FAULTS)
        self.shown(self.site, "start 7 3 1 ; stop goal", "barred", "halted")
        self.shown(self.site, "start 0 0 0 ; go south 1", "barred", "astray")
        self.shown(self.site, "start 0 0 0 ; while x < 6 ; go east 1 ; see lamp ; end ; end ; stop goal", *FAULTS)
        self.shown(self.site, "start 4 3 1 ; see sun ; if x < 5 ; go north 1 ; else ; go west 2 ; end ; end", "astray")

    def test_faults_that_can_come(self):
        self.none(self.site, "start 0 2 0 ; go east 2", "barred")
        self.none(self.site, "start 0 0 0 ; go south 1", "halted")
        self.none(self.site, "start 7 3 1 ; stop pit", "astray")
        self.none(self.site, "start 0 0 0 ; go east 6 ; stop goal", "barred")
        self.none(self.site, "start 0 0 1", "barred")

    def test_runs_that_never_wait_need_no_entry(self):
        self.assertEqual(certificate(self.site, plan_of("start 1 1 1"), "barred"), ())
        self.holds(self.site, "start 1 1 1", "barred")
        self.holds(self.site, "start 4 2 0 ; go east 1", "halted")
        self.holds(self.site, "start 0 2 0 ; go west 1", "barred")
        self.holds(self.site, "start 7 2 0 ; stop goal", "astray")

    def test_start_barred_in_part_or_wholly(self):
        self.shown(self.site, "start 4 1 1 ; go north 1", "halted", "astray")
        self.none(self.site, "start 4 1 1 ; go north 1", "barred")
        self.shown(self.site, "start 4 2 0 ; go south 9 ; stop goal", "halted", "astray")
        self.none(self.site, "start 4 2 0 ; go south 9 ; stop goal", "barred")

    def test_barred_rooms_that_keep_a_fault_away(self):
        site = site_of("yard 5 1 ; slip 0 1 0 ; room goal 1 0 1 0 ; barred wall 2 0 2 0")
        self.shown(site, "start 0 0 0 ; go east 1 ; stop goal", "astray", "halted")
        self.none(site, "start 0 0 0 ; go east 1 ; stop goal", "barred")
        site = site_of("yard 7 3 ; slip 1 1 1 ; room goal 3 0 6 2 ; barred wall 0 0 1 2 ; barred top 3 2 4 2 ; mark sun 0 0 6 2 1")
        self.shown(site, "start 2 1 1 ; go east 1 ; see sun ; go east 1 ; end ; if x >= 3 ; go east 1 ; end", "astray")

    def test_loops_that_never_end(self):
        still = site_of("yard 6 4 ; slip 0 0 0 ; room goal 0 0 0 0 ; mark lamp 0 0 5 3 1")
        self.shown(still, "start 2 1 0 ; while x < 6 ; go east 1 ; go west 1 ; end ; stop goal", *FAULTS)
        rows = "start 2 1 0 ; while x < 6 ; go east 1 ; see lamp ; go west 1 ; end ; end"
        self.shown(still, rows, *FAULTS)
        self.none(still, "start 1 1 0 ; while x < 6 ; go west 1 ; go east 1 ; see lamp ; end ; end", "halted")
        site = site_of("yard 5 1 ; slip 1 1 0 ; room goal 1 0 3 0 ; mark lamp 0 0 4 0 0")
        rows = "start 2 0 0 ; while x < 9 ; go east 1 ; see lamp ; if x >= 3 ; go west 1 ; end ; end ; end ; stop goal"
        self.shown(site, rows, "astray", "halted")
        self.none(site, rows, "barred")

    def test_by_name(self):
        plan = plan_of("start 0 1 0 ; go east 1")
        found = certificate(fault="barred", plan=plan, site=self.site)
        self.assertEqual(found, ((0, 0, at(0), at(1)),))
        self.assertIs(certificate_holds(value=found, fault="barred", plan=plan, site=self.site), True)


class TestSteps(CertificateCase):
    def setUp(self):
        self.site = site_of("yard 8 3 ; slip 0 1 0 ; room goal 4 0 7 2 ; barred pit 5 1 5 1")
        self.rows = "start 0 0 0 ; go east 2"
        self.paper = ((0, 0, at(0), at(0)), (0, 1, bounds((1, 1), (1, 2), (0, 1)), at(0)))

    def test_just_what_is_needed(self):
        self.holds(self.site, self.rows, "barred", *self.paper)
        self.holds(self.site, self.rows, "barred", *reversed(self.paper))
        self.holds(self.site, self.rows, "halted", *self.paper)
        self.holds(self.site, self.rows, "astray", *self.paper)

    def test_an_entry_too_few(self):
        self.fails(self.site, self.rows, "barred")
        self.fails(self.site, self.rows, "barred", self.paper[0])
        self.fails(self.site, self.rows, "barred", self.paper[1])
        self.fails(self.site, self.rows, "barred", self.paper[0], (0, 1, at(1), at(0)))
        self.fails(self.site, self.rows, "barred", self.paper[0], (0, 1, at(1, 2), at(0)))

    def test_entries_twice_and_in_parts(self):
        self.holds(self.site, self.rows, "barred", *self.paper, *self.paper)
        self.holds(self.site, self.rows, "barred", self.paper[0], (0, 1, at(1), at(0)), (0, 1, at(1, 2), at(0)))

    def test_entries_at_which_nothing_ever_stands(self):
        self.holds(self.site, self.rows, "barred", *self.paper, (0, 1, at(3, 5), at(2)))
        self.holds(self.site, self.rows, "barred", *self.paper, (0, 1, bounds((1, 4), (0, 5), (-1, 3)), bounds((0, 2), (0, 0), (-9, 9))))
        # One step from there can lead to the pit, or out of the yard.
        self.fails(self.site, self.rows, "barred", *self.paper, (0, 1, at(3, 3), at(1)))
        self.fails(self.site, self.rows, "barred", *self.paper, (0, 1, at(3, 6), at(2)))
        self.holds(self.site, self.rows, "halted", *self.paper, (0, 1, at(3, 6), at(1)))

    def test_entries_at_barred_places(self):
        # Only where a step ends counts.
        self.holds(self.site, self.rows, "barred", *self.paper, (0, 1, at(3, 5), at(1)))
        self.holds(self.site, self.rows, "barred", *self.paper, (0, 1, at(3, -1), at(1)))
        self.fails(self.site, self.rows, "barred", *self.paper, (0, 1, at(3, -2), at(1)))
        self.fails(self.site, self.rows, "barred", *self.paper, (0, 1, at(3, 3), at(1, 3)))

    def test_positions_that_are_none(self):
        # From each of them all would go well.
        for row, done in [(0, 2), (0, 3), (0, -1), (0, BIG), (1, 0), (2, 0), (-1, 0), (-1, 1), (BIG, 0)]:
            self.fails(self.site, self.rows, "barred", *self.paper, (row, done, at(0), at(0)))
        rows = "start 0 0 0 ; if x < 1 ; end ; see sun ; end ; stop goal"
        site = site_of("yard 8 3 ; slip 0 1 0 ; room goal 0 0 7 2 ; mark sun 0 0 7 2 0")
        self.holds(site, rows, "astray", (1, 0, at(0), at(0)))
        for row, done in [(0, 0), (1, 1), (1, -1), (2, 0), (3, 0), (-2, 0)]:
            self.fails(site, rows, "astray", (1, 0, at(0), at(0)), (row, done, at(0), at(0)))

    def test_entries_far_away(self):
        for far in (9, 99, BIG, -BIG):
            # The step is not done, as the belief would leave the yard.
            self.holds(self.site, self.rows, "barred", *self.paper, (0, 1, at(far), at(far)))
            self.fails(self.site, self.rows, "halted", *self.paper, (0, 1, at(far), at(0)))
            # The step is done, and leads to a place that is barred.
            self.fails(self.site, self.rows, "barred", *self.paper, (0, 1, at(0, far), at(0)))
            self.holds(self.site, self.rows, "halted", *self.paper, (0, 1, at(0, far), at(0, far)))
        wide = bounds((-BIG, BIG), (-BIG, BIG), (-BIG, BIG))
        self.fails(self.site, self.rows, "barred", *self.paper, (0, 1, wide, wide))
        self.fails(self.site, self.rows, "halted", *self.paper, (0, 1, wide, wide))
        self.holds(self.site, self.rows, "astray", *self.paper, (0, 1, wide, wide))
        self.holds(self.site, self.rows, "astray", (0, 0, wide, wide), (0, 1, wide, wide))

    def test_beliefs_from_which_a_step_leads_into_the_yard(self):
        self.holds(self.site, self.rows, "halted", *self.paper, (0, 1, at(-1, 0), at(0)))
        self.fails(self.site, self.rows, "halted", *self.paper, (0, 1, at(-2, 0), at(0)))
        self.fails(self.site, self.rows, "halted", *self.paper, (0, 1, at(7, 0), at(0)))
        self.fails(self.site, self.rows, "halted", *self.paper, (0, 0, at(-1, 0), at(0)))
        self.holds(self.site, self.rows, "halted", *self.paper, (0, 0, at(-1, 1), at(0)), (0, 1, at(0, 2), at(0)), (0, 1, at(0, 3), at(0)), (0, 1, at(0, 1), at(0)))

    def test_the_end_of_a_step_may_be_halted(self):
        rows = "start 6 0 0 ; go east 2"
        self.fails(self.site, rows, "halted", (0, 0, at(6), at(0)), (0, 1, at(7), at(0)))
        self.fails(self.site, rows, "barred", (0, 0, at(6), at(0)))
        self.holds(self.site, rows, "astray", (0, 0, at(6), at(0)))

    def test_stops(self):
        rows = "start 2 2 0 ; go east 1 ; stop goal"
        self.fails(self.site, rows, "astray", (0, 0, at(2), at(2)))
        rows = "start 3 2 0 ; go east 1 ; stop goal"
        self.holds(self.site, rows, "astray", (0, 0, at(3), at(2)))
        self.fails(self.site, rows, "astray", (0, 0, bounds((3, 3), (2, 3), (-1, 0)), at(2)))

    def test_tests(self):
        rows = "start 1 0 0 ; go east 1 ; if x < 2 ; stop goal ; end ; go north 1"
        needed = (0, 0, at(1), at(0)), (3, 0, bounds((2, 2), (2, 3), (0, 1)), at(0))
        self.holds(self.site, rows, "astray", *needed)
        self.fails(self.site, rows, "astray", *needed[:1])
        self.fails(self.site, rows, "astray", *needed, (0, 0, at(0), at(0)))
        self.holds(self.site, rows, "astray", *needed, (0, 0, at(0, 4), at(0)))
        self.holds(self.site, rows, "barred", *needed, (0, 0, at(0), at(0)))
        self.fails(self.site, rows, "barred", *needed, (0, 0, at(2), at(0)))
        self.holds(self.site, rows, "barred", *needed, (0, 0, at(1, 2), at(0)), (3, 0, at(2, 4), at(0)))

    def test_start_with_errors(self):
        rows = "start 2 1 1 ; go east 1"
        near = bounds((2, 2), (1, 3), (-1, 1))
        self.holds(self.site, rows, "halted", (0, 0, near, bounds((1, 1), (0, 2), (-1, 1))))
        self.fails(self.site, rows, "halted", (0, 0, near, bounds((1, 1), (1, 2), (0, 1))))
        self.fails(self.site, rows, "halted", (0, 0, near, bounds((1, 1), (0, 1), (-1, 0))))


class TestSights(CertificateCase):
    def setUp(self):
        self.site = site_of(
            "yard 6 1 ; slip 0 0 0 ; room goal 4 0 5 0 ; mark lamp 3 0 9 0 1 ; mark west -9 0 1 0 0 ; mark all -9 -9 99 9 2"
        )

    def test_seen(self):
        rows = "start 4 0 0 ; see lamp ; go west 1 ; end"
        needed = (0, 0, at(4), at(0)), (1, 0, bounds((3, 5), (4, 4), (-1, 1)), at(0))
        self.holds(self.site, rows, "barred", *needed)
        self.fails(self.site, rows, "barred", *needed[:1])
        self.fails(self.site, rows, "barred", needed[0], (1, 0, bounds((3, 4), (4, 4), (0, 1)), at(0)))
        self.fails(self.site, rows, "barred", needed[1])

    def test_beliefs_outside_of_the_yard_cannot_be_seen(self):
        rows = "start 5 0 0 ; see lamp ; go west 1 ; end"
        needed = (0, 0, at(5), at(0)), (1, 0, bounds((4, 5), (5, 5), (0, 1)), at(0))
        self.holds(self.site, rows, "barred", *needed)
        self.fails(self.site, rows, "barred", needed[0], (1, 0, at(5), at(0)))

    def test_missed(self):
        rows = "start 2 0 0 ; see lamp ; else ; go west 1 ; end"
        self.holds(self.site, rows, "barred", (1, 0, at(2), at(0)))
        # At the sight itself no run waits, but one that stands there goes on.
        self.holds(self.site, rows, "barred", (1, 0, at(2), at(0)), (0, 0, at(2), at(0)))
        self.fails(self.site, rows, "barred", (1, 0, at(2), at(0)), (0, 0, at(1), at(0)))
        self.holds(self.site, rows, "barred", (1, 0, at(2), at(0)), (0, 0, at(1), at(0)), (1, 0, at(1), at(0)))
        self.holds(self.site, rows, "barred", (1, 0, at(2), at(0)), (0, 0, at(0), at(0)))
        self.fails(self.site, rows, "halted", (1, 0, at(2), at(0)), (0, 0, at(0), at(0)))

    def test_missed_and_stopped(self):
        rows = "start 5 0 0 ; see lamp ; else ; stop goal ; end"
        self.holds(self.site, rows, "astray", (0, 0, at(5), at(0)))
        self.fails(self.site, rows, "astray", (0, 0, at(5), at(0)), (0, 0, at(5, 2), at(0)))
        self.fails(self.site, rows, "astray", (0, 0, bounds((5, 5), (2, 5), (-3, 0)), at(0)))

    def test_seen_far_away(self):
        rows = "start 4 0 0 ; see lamp ; see all ; end ; else ; stop goal ; end"
        needed = (0, 0, at(4), at(0)), (1, 0, bounds((3, 5), (4, 4), (-1, 1)), at(0))
        self.holds(self.site, rows, "astray", *needed)
        # Seen from outside of the yard, with the belief in it, and then seen again.
        self.fails(self.site, rows, "astray", *needed, (0, 0, at(BIG, 6), at(0)))
        self.holds(self.site, rows, "astray", *needed, (0, 0, at(BIG, 6), at(0)), (1, 0, at(5, 6), at(0)))
        # Too far away for any belief in the yard: no pair is allowed.
        self.holds(self.site, rows, "astray", *needed, (0, 0, at(BIG, 7), at(0)))
        self.fails(self.site, rows, "astray", *needed, (0, 0, at(BIG, 10), at(0)))

    def test_missed_far_away(self):
        rows = "start 4 0 0 ; see lamp ; else ; see all ; end ; end"
        needed = ((0, 0, at(4), at(0)),)
        self.holds(self.site, rows, "barred", *needed)
        for belief in (0, 17, -99, BIG, -BIG):
            self.fails(self.site, rows, "barred", *needed, (0, 0, at(belief, 2), at(0)))
            self.holds(self.site, rows, "barred", *needed, (0, 0, at(belief, 2), at(0)), (1, 0, at(belief, 2), at(0)))
            # Missed there, too: the run ends.
            self.holds(self.site, rows, "barred", *needed, (0, 0, at(belief, 100), at(0)))
        wide = bounds((-BIG, BIG), (-BIG, BIG), (-BIG, BIG))
        self.fails(self.site, rows, "barred", *needed, (0, 0, wide, at(0)))
        left = bounds((-BIG, 7), (-BIG, BIG), (-BIG, BIG))
        right = bounds((8, BIG), (-BIG, BIG), (-BIG, BIG))
        self.holds(self.site, rows, "barred", *needed, (0, 0, wide, at(0)), (1, 0, left, at(0)), (1, 0, right, at(0)))
        gap = bounds((9, BIG), (-BIG, BIG), (-BIG, BIG))
        self.fails(self.site, rows, "barred", *needed, (0, 0, wide, at(0)), (1, 0, left, at(0)), (1, 0, gap, at(0)))

    def test_missed_places_far_away_at_a_step(self):
        rows = "start 4 0 0 ; see lamp ; else ; go east 1 ; end"
        needed = ((0, 0, at(4), at(0)),)
        for place in (100, BIG, -BIG):
            self.fails(self.site, rows, "halted", *needed, (0, 0, at(4, place), at(0)))
            self.holds(self.site, rows, "halted", *needed, (0, 0, at(4, place), at(0)), (1, 0, at(4, place), at(0)))
            self.fails(self.site, rows, "barred", *needed, (0, 0, at(4, place), at(0)), (1, 0, at(4, place), at(0)))
            self.holds(self.site, rows, "barred", *needed, (0, 0, at(5, place), at(0)))
            self.fails(self.site, rows, "halted", *needed, (0, 0, at(5, place), at(0)))

    def test_several_landmarks_in_a_row(self):
        rows = "start 2 0 0 ; see lamp ; else ; see west ; else ; go east 1 ; end ; end"
        self.holds(self.site, rows, "barred", (2, 0, at(2), at(0)))
        wide = bounds((2, 2), (0, 5), (-9, 9))
        self.fails(self.site, rows, "barred", (2, 0, at(2), at(0)), (0, 0, wide, at(0)))
        self.holds(self.site, rows, "barred", (2, 0, at(2), at(0)), (0, 0, wide, at(0)), (1, 0, bounds((2, 2), (0, 1), (-2, -1)), at(0)))
        self.fails(self.site, rows, "barred", (2, 0, at(2), at(0)), (0, 0, wide, at(0)), (1, 0, at(2, 1), at(0)))


class TestWrongValues(CertificateCase):
    def setUp(self):
        self.site = site_of("yard 8 3 ; slip 0 1 0 ; room goal 4 0 7 2 ; mark lamp 0 0 7 2 0")
        self.rows = "start 0 0 0 ; go east 2 ; see lamp ; if x < 9 ; stop goal ; end ; end"
        self.paper = (
            (0, 0, at(0), at(0)), (0, 1, bounds((1, 1), (1, 2), (0, 1)), at(0)),
            (1, 0, bounds((2, 2), (2, 4), (0, 2)), at(0)),
        )

    def test_any_value(self):
        self.holds(self.site, self.rows, "barred", *self.paper)
        plan = plan_of(self.rows)
        for value in samples.any_values():
            self.assertIs(certificate_holds(self.site, plan, "barred", value), False)
            self.fails(self.site, self.rows, "barred", *self.paper, value)
            self.fails(self.site, self.rows, "barred", value, *self.paper)

    def test_lists_for_tuples(self):
        self.assertIs(certificate_holds(self.site, plan_of(self.rows), "barred", list(self.paper)), False)
        self.fails(self.site, self.rows, "barred", list(self.paper[0]), *self.paper[1:])
        row, done, across, upward = self.paper[0]
        for entry in [
            (row, done, list(across), upward), (row, done, across, list(upward)),
            (row, done, (list(across[0]),) + across[1:], upward), (row, done, across, upward[:2] + ([0, 0],)),
        ]:
            self.fails(self.site, self.rows, "barred", entry, *self.paper[1:])
            self.fails(self.site, self.rows, "barred", *self.paper, entry)

    def test_bools_for_integers(self):
        row, done, across, upward = self.paper[0]
        for entry in [
            (False, done, across, upward), (row, False, across, upward), (True, 0, *self.paper[2][2:]),
            (row, done, ((False, 0),) + across[1:], upward), (row, done, across, upward[:2] + ((0, False),)),
        ]:
            self.fails(self.site, self.rows, "barred", entry, *self.paper[1:])
            self.fails(self.site, self.rows, "barred", *self.paper, entry)

    def test_each_part_spoilt(self):
        for spoilt in samples.any_values():
            for k in range(4):
                if k < 2 and type(spoilt) is int and spoilt in (0, 1):
                    continue
                entry = list(self.paper[0])
                entry[k] = spoilt
                self.fails(self.site, self.rows, "barred", *self.paper, tuple(entry))
            for k in range(3):
                if samples.is_pair(spoilt) and spoilt == (0, 0):
                    continue
                part = list(at(0))
                part[k] = spoilt
                self.fails(self.site, self.rows, "barred", *self.paper, (0, 0, tuple(part), at(0)))
                self.fails(self.site, self.rows, "barred", *self.paper, (0, 0, at(0), tuple(part)))

    def test_too_short_and_too_long(self):
        row, done, across, upward = self.paper[0]
        for entry in [
            (), (row,), (row, done), (row, done, across), (row, done, across, upward, upward),
            (row, done, across[:2], upward), (row, done, across, upward + ((0, 0),)), (row, done, (), ()),
        ]:
            self.fails(self.site, self.rows, "barred", *self.paper, entry)

    def test_positions_that_are_none(self):
        for row, done in [
            (-1, 0), (-4, 0), (4, 0), (5, 0), (BIG, 0), (0, 2), (0, -1), (0, 9), (0, BIG), (1, 1), (1, -1), (1, 9),
            (2, 0), (3, 0),
        ]:
            self.fails(self.site, self.rows, "barred", *self.paper, (row, done, at(0), at(0)))

    def test_bounds_that_are_not_tight(self):
        for across in [
            ((0, 1), (0, 0), (0, 0)), ((0, 0), (0, 1), (0, 0)), ((0, 0), (0, 0), (0, 1)), ((0, 0), (0, 0), (-1, 0)),
            ((0, 0), (0, 0), (-9, 9)), ((-BIG, BIG), (0, 0), (0, 0)), ((0, 3), (0, 3), (-9, 9)),
        ]:
            self.fails(self.site, self.rows, "astray", *self.paper, (0, 0, across, at(0)))
            self.fails(self.site, self.rows, "astray", *self.paper, (0, 0, at(0), across))

    def test_empty_spans(self):
        for across in [
            ((1, 0), (0, 0), (0, 0)), ((0, 0), (1, 0), (0, 0)), ((0, 0), (0, 0), (1, 0)), ((0, 0), (0, 0), (1, 1)),
            (None, None, None),
        ]:
            self.fails(self.site, self.rows, "barred", *self.paper, (0, 0, across, at(0)))
            self.fails(self.site, self.rows, "barred", *self.paper, (0, 0, at(0), across))

    def test_spans_are_no_bounds(self):
        span = Span((0, 0), (0, 0), (0, 0))
        self.fails(self.site, self.rows, "barred", *self.paper, (0, 0, span, span))


class TestMismatch(unittest.TestCase):
    def test_both(self):
        site = site_of("yard 4 3 ; slip 0 0 0 ; room hall 0 0 1 1 ; mark lamp 0 0 3 2 0")
        for rows, name in [
            ("start 4 0 0", "start"), ("start 0 3 0 ; stop none", "start"), ("start 0 0 0 ; stop none", "none"),
            ("start 0 0 0 ; see hall ; end", "hall"), ("start 0 0 0 ; stop hall ; stop lamp ; stop none", "lamp"),
        ]:
            plan = plan_of(rows)
            calls = [lambda fault=fault: certificate(site, plan, fault) for fault in FAULTS]
            calls += [lambda value=value: certificate_holds(site, plan, "barred", value) for value in ((), None, 5, [1])]
            for call in calls:
                with self.assertRaises(Mismatch) as caught:
                    call()
                self.assertEqual(caught.exception.name, name)


if __name__ == "__main__":
    unittest.main()
