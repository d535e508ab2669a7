"""What the interface lists: names, parameters, and methods that each class defines itself."""

import ast
import inspect
import pathlib
import unittest

import slipsights
from slipsights import alike, bearing, cells, certificates, deciding, desk, errors, plans, robots, runs, sites, spans

CLASSES = {
    sites.Room: ("name low high barred", "__contains__ __eq__"),
    sites.Mark: ("name low high blur", "__contains__ __eq__"),
    sites.Site: ("size slips rooms marks", "read room_of mark_of is_barred __eq__ __str__"),
    plans.Go: ("way steps", "__eq__ __str__"),
    plans.If: ("test rows others", "__eq__ __str__"),
    plans.While: ("test rows", "__eq__ __str__"),
    plans.See: ("mark rows others", "__eq__ __str__"),
    plans.Stop: ("room", "__eq__ __str__"),
    plans.Plan: ("start blur rows", "read without __len__ __getitem__ __eq__ __str__"),
    spans.Span: (
        "belief place error", "total stepped sighted less places_at __contains__ __bool__ __and__ __le__ __lt__ __ge__ "
        "__gt__ __eq__",
    ),
    cells.Cells: (
        "cells", "members grown __contains__ __len__ __bool__ __and__ __or__ __sub__ __xor__ __le__ __lt__ __ge__ "
        "__gt__ __eq__ __str__",
    ),
    robots.Robot: ("site plan", "cells step sight miss may undo trial within __len__"),
    desk.Desk: ("", "say __len__"),
}
PROPERTIES = {spans.Span: ["total"], cells.Cells: ["members"]}
DEFAULTS = {
    sites.Room: {"barred": False}, sites.Site: {"rooms": (), "marks": ()}, plans.If: {"others": ()},
    plans.See: {"others": ()}, plans.Plan: {"rows": ()}, cells.Cells: {"cells": ()},
}
CALLS = {
    sites.Site.read: "text", plans.Plan.read: "text", runs.play: "site plan pairs", sites.Site.room_of: "self name",
    sites.Site.mark_of: "self name", sites.Site.is_barred: "self cell", plans.Plan.without: "self at",
    spans.Span.stepped: "self by low high", spans.Span.sighted: "self low high blur", spans.Span.less: "self other",
    spans.Span.places_at: "self number", cells.Cells.grown: "self low high", deciding.never: "site plan fault",
    deciding.shortest: "site plan fault", deciding.longest: "site plan", deciding.drift: "site plan at",
    deciding.endless: "site plan", cells.ends: "site plan word", cells.stands: "site plan at",
    certificates.certificate: "site plan fault", certificates.certificate_holds: "site plan fault value",
    bearing.widest: "site plan faults slip", bearing.fewest_marks: "site plan faults", alike.alike: "site p q",
    alike.parting: "site p q", alike.needless: "site plan", robots.Robot.cells: "self", robots.Robot.step: "self",
    robots.Robot.sight: "self belief", robots.Robot.miss: "self", robots.Robot.may: "self fault",
    robots.Robot.undo: "self", robots.Robot.trial: "self", robots.Robot.within: "self work",
    desk.Desk.say: "self command",
}
MODULES = {
    sites: "Room Mark Site", plans: "Row Go If While See Stop Plan", runs: "Played play", spans: "Span",
    deciding: "never shortest longest drift endless", cells: "Cells ends stands",
    certificates: "certificate certificate_holds", bearing: "widest fewest_marks", alike: "alike parting needless",
    robots: "Robot", desk: "Desk",
}
# Attributes that are not the arguments.
ATTRIBUTES = {robots.Robot: "belief row done ended", desk.Desk: "site plan"}


class TestInterface(unittest.TestCase):
    def test_parameters_of_classes(self):
        for kind, (names, _) in CLASSES.items():
            parameters = inspect.signature(kind).parameters
            self.assertEqual(list(parameters), names.split(), kind)
            defaults = {name: one.default for name, one in parameters.items() if one.default is not one.empty}
            self.assertEqual(defaults, DEFAULTS.get(kind, {}), kind)

    def test_parameters_of_calls(self):
        for call, names in CALLS.items():
            self.assertEqual(list(inspect.signature(call).parameters), names.split(" "), call)

    def test_methods_stand_in_the_class_itself(self):
        for kind, (_, names) in CLASSES.items():
            for name in names.split(" "):
                self.assertIn(name, vars(kind), kind)

    def test_defined_in_their_files(self):
        for kind in list(CLASSES) + [plans.Row, runs.Played, runs.play]:
            self.assertIs(getattr(inspect.getmodule(kind), kind.__name__), kind)
        for module, names in MODULES.items():
            for name in names.split(" "):
                self.assertEqual(getattr(module, name).__module__, module.__name__)
        for name in dir(errors):
            if not name.startswith("_"):
                self.assertEqual(getattr(errors, name).__module__, "slipsights.errors")

    def test_attributes_are_set_on_each_object(self):
        go = plans.Go("east", 1)
        site = sites.Site((1, 1), (0, 0, 0), [sites.Room("a", (0, 0), (0, 0))], [sites.Mark("a", (0, 0), (0, 0), 0)])
        plan = plans.Plan((0, 0), 0, [go])
        made = [
            site, site.rooms[0], site.marks[0], go, plans.If("x < 1", []), plans.While("x < 1", [go]),
            plans.See("a", []), plans.Stop("a"), plan, spans.Span((0, 0), (0, 0), (0, 0)),
            spans.Span((1, 0), (0, 0), (0, 0)), robots.Robot(site, plan), desk.Desk(),
        ]
        self.assertEqual({type(one) for one in made}, set(CLASSES) - {cells.Cells})
        for one in made:
            for name in ATTRIBUTES.get(type(one), CLASSES[type(one)][0]).split(" "):
                self.assertIn(name, vars(one))
        for name in "ended row done belief place trail faults".split(" "):
            self.assertIn(name, vars(runs.play(site, plan, [])))

    def test_properties(self):
        for kind, names in PROPERTIES.items():
            for name in names:
                self.assertIsInstance(vars(kind)[name], property)

    def test_the_package_itself_is_empty(self):
        tree = ast.parse(pathlib.Path(slipsights.__file__).read_text())
        self.assertEqual(len(tree.body), 1)
        self.assertIsNotNone(ast.get_docstring(tree))


if __name__ == "__main__":
    unittest.main()
