"""What the interface lists: names, parameters, and methods that each class defines itself."""

import ast
import inspect
import pathlib
import unittest

import slipsights
from slipsights import errors, plans, runs, sites

CLASSES = {
    sites.Room: ("name low high barred", "__contains__ __eq__"),
    sites.Mark: ("name low high blur", "__contains__ __eq__"),
    sites.Site: ("size slips rooms marks", "read room_of mark_of is_barred __eq__ __str__"),
    plans.Go: ("way steps", "__eq__ __str__"),
    plans.If: ("test rows others", "__eq__ __str__"),
    plans.While: ("test rows", "__eq__ __str__"),
    plans.See: ("mark rows others", "__eq__ __str__"),
    plans.Stop: ("room", "__eq__ __str__"),
    plans.Plan: ("start blur rows", "read without __len__ __getitem__ __eq__ __str__"),
}
DEFAULTS = {
    sites.Room: {"barred": False}, sites.Site: {"rooms": (), "marks": ()}, plans.If: {"others": ()},
    plans.See: {"others": ()}, plans.Plan: {"rows": ()},
}
CALLS = {
    sites.Site.read: "text", plans.Plan.read: "text", runs.play: "site plan pairs", sites.Site.room_of: "self name",
    sites.Site.mark_of: "self name", sites.Site.is_barred: "self cell", plans.Plan.without: "self at",
}


class TestInterface(unittest.TestCase):
    def test_parameters_of_classes(self):
        for kind, (names, _) in CLASSES.items():
            parameters = inspect.signature(kind).parameters
            self.assertEqual(list(parameters), names.split(" "), kind)
            defaults = {name: one.default for name, one in parameters.items() if one.default is not one.empty}
            self.assertEqual(defaults, DEFAULTS.get(kind, {}), kind)

    def test_parameters_of_calls(self):
        for call, names in CALLS.items():
            self.assertEqual(list(inspect.signature(call).parameters), names.split(" "), call)

    def test_methods_stand_in_the_class_itself(self):
        for kind, (_, names) in CLASSES.items():
            for name in names.split(" "):
                self.assertIn(name, vars(kind), kind)

    def test_defined_in_their_files(self):
        for kind in list(CLASSES) + [plans.Row, runs.Played, runs.play]:
            self.assertIs(getattr(inspect.getmodule(kind), kind.__name__), kind)
        for module, names in {
            "sites": ["Room", "Mark", "Site"], "plans": ["Row", "Go", "If", "While", "See", "Stop", "Plan"],
            "runs": ["Played", "play"],
        }.items():
            for name in names:
                owner = {"sites": sites, "plans": plans, "runs": runs}[module]
                self.assertEqual(getattr(owner, name).__module__, f"slipsights.{module}")
        for name in dir(errors):
            if not name.startswith("_"):
                self.assertEqual(getattr(errors, name).__module__, "slipsights.errors")

    def test_attributes_are_set_on_each_object(self):
        go = plans.Go("east", 1)
        site = sites.Site((1, 1), (0, 0, 0), [sites.Room("a", (0, 0), (0, 0))], [sites.Mark("a", (0, 0), (0, 0), 0)])
        plan = plans.Plan((0, 0), 0, [go])
        made = [
            site, site.rooms[0], site.marks[0], go, plans.If("x < 1", []), plans.While("x < 1", [go]),
            plans.See("a", []), plans.Stop("a"), plan,
        ]
        self.assertEqual({type(one) for one in made}, set(CLASSES))
        for one in made:
            for name in CLASSES[type(one)][0].split(" "):
                self.assertIn(name, vars(one))
        for name in "ended row done belief place trail faults".split(" "):
            self.assertIn(name, vars(runs.play(site, plan, [])))

    def test_the_package_itself_is_empty(self):
        tree = ast.parse(pathlib.Path(slipsights.__file__).read_text())
        self.assertEqual(len(tree.body), 1)
        self.assertIsNotNone(ast.get_docstring(tree))


if __name__ == "__main__":
    unittest.main()
