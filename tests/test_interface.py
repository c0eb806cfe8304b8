"""The interface: names, arguments, files; and what [1] and [2] say of all of them."""

import ast
import copy
import importlib
import inspect
import os
import random
import unittest

from pushtells.boxes import Box
from pushtells.errors import PushError
from pushtells.readings import cheapest_readings, readings_paper
from pushtells.webs import Web
from tests.helpers import JUNK, MIXED, PIPES, TRIANGLE, filled_box, raised, random_web

INTERFACE = {
    "webs": {"Web": "points ties", "point_ties": "web point", "tie_kind": "web tie", "turned": "web points",
             "struck": "web ties", "part_of": "web points", "side_by_side": "one other", "way_ends": "web way",
             "row_sign": "web row", "components": "web", "ring_count": "web", "parity_paper": "web point",
             "parity_holds": "web point value"},
    "boxes": {"Box": "web bounds totals", "is_within": "web one other", "cut_box": "web box tie least greatest",
              "turned_box": "web box points", "moved_box": "web box tie by", "box_times": "web box many",
              "box_widths": "web box"},
    "signs": {"pull": "web signs tie", "sign_pulls": "web signs", "shortage": "web box signs",
              "signs_show": "web box value", "hanging_parts": "web signs"},
    "blocks": {"blocks": "web", "block_kind": "web block", "block_paper": "web block",
               "block_holds": "web block value"},
    "pieces": {"court1": "web", "court1_paper": "web", "court1_holds": "web value", "bad_paper": "web",
               "bad_holds": "web value", "even_rings": "web", "most_ties": "points", "full_paper": "web",
               "full_holds": "web value"},
    "tighten": {"left_at": "web box point", "looked_at": "web box point", "looked_along": "web box points",
                "is_still": "web box", "tightened": "web box", "round_box": "web box", "rounds": "web box",
                "sweep_row": "web", "sweep_holds": "web value"},
    "endings": {"bound_paper": "web box tie side", "bound_holds": "web box tie side value",
                "nothing_paper": "web box", "nothing_holds": "web box value", "end_paper": "web box",
                "end_holds": "web box value"},
    "cover": {"cover_web": "web", "cover_box": "web box", "put_down": "web row", "lifted": "web z",
              "signs_down": "web signs", "worst_signs": "web box less weights"},
    "fillings": {"filling_holds": "web box value", "fill_paper": "web box", "fill_holds": "web box value"},
    "ends": {"exact_ends": "web box tie", "stop_paper": "web box tie side", "stop_holds": "web box tie side value",
             "all_ends": "web box"},
    "whole": {"whole_filling": "web box", "is_whole_filling": "web box value", "whole_through": "web box tie number",
              "whole_paper": "web box", "whole_holds": "web box value"},
    "courts": {"left_ties": "web", "court2": "web", "court2_paper": "web", "court2_holds": "web value",
               "court3": "web", "court3_paper": "web", "court3_holds": "web value"},
    "fools": {"built_box": "web paper", "level_piece": "web box signs", "fools_paper": "web box which",
              "fools_holds": "web box which value"},
    "totals": {"closed_evens": "web", "web_rank": "web", "free_number": "web", "told_by": "web lot",
               "tie_paper": "web lot tie", "tie_holds": "web lot tie value", "told_values": "web totals read",
               "totals_paper": "web totals", "totals_hold": "web totals value", "fewest_swing": "web",
               "like_ties": "web", "wrong_readings": "web totals read"},
    "readings": {"enough_paper": "web lot", "enough_holds": "web lot value", "readings_paper": "web",
                 "readings_hold": "web value", "exchanged_ties": "web one other tie",
                 "cheapest_readings": "web prices", "cheapest_paper": "web prices",
                 "cheapest_holds": "web prices value", "lot_number": "web lot", "lot_paper": "web lot",
                 "lot_holds": "web lot value", "weighed_count": "web"},
    "sums": {"sum_look": "web box signs", "look_lack": "web box signs", "is_needed": "web signs",
             "needed_signs": "web", "needed_count": "web", "failing_sums": "web box",
             "needed_part": "web box signs", "split_paper": "web signs", "split_holds": "web signs value",
             "cut_bounds": "web box rows", "sum_ends": "web box", "lone_box": "web signs wide",
             "lacking_sums": "web rows"},
    "amiss": {"reach": "web weights signs", "least_widening": "web box weights", "widening_paper": "web box weights",
              "widening_holds": "web box weights value", "greatest_narrowing": "web box weights",
              "narrowing_paper": "web box weights", "narrowing_holds": "web box weights value",
              "least_change": "web box", "change_paper": "web box", "change_holds": "web box value"},
    "single": {"right_total": "web box point", "wrong_points": "web box", "right_tie": "web box tie",
               "wrong_ties": "web box", "single_paper": "web box word number",
               "single_holds": "web box word number value"},
    "kinds": {"accounts_web": "points postings", "alike_web": "points ties", "even_turning": "web",
              "odd_turning": "web", "most_alike": "points", "most_plain": "points", "fullest_alike": "points",
              "fullest_plain": "points"},
    "tables": {"table_web": "rows columns holes loose", "hole_groups": "rows columns holes",
               "is_trusted": "rows columns holes", "fewest_read": "rows columns holes",
               "read_paper": "rows columns holes prices", "read_holds": "rows columns holes prices value"},
}


def told(module, name):
    return getattr(importlib.import_module("pushtells." + module), name)


def arguments(names, rng):
    """Fitting arguments, sequences as tuples and as lists, by the names of the parameters."""
    web = random_web(rng, rng.randint(2, 4), rng.randint(1, 4))
    box = filled_box(rng, web, 3)
    lot = tuple(rng.sample(range(web.points), rng.randint(1, web.points)))
    fit = {"points": lot, "ties": (0,), "web": web, "box": box, "point": rng.randrange(web.points), "tie": 0,
           "one": web, "other": web, "way": (0,), "row": (), "value": ("odd", (0, 1)), "least": -1, "greatest": 2,
           "by": 3, "many": 2, "bounds": box.bounds, "totals": box.totals, "signs": (1,) * web.points, "side": -1,
           "block": (0,), "row": rng.choice([(), (4,) * (2 * len(web.ties))]), "z": (4,) * len(web.ties), "less": (1, 2), "number": 1,
           "weights": (2,) * len(web.ties), "which": 2, "lot": tuple(range(1, len(web.ties))),
           "read": ((0, 1),), "prices": (1,) * len(web.ties), "rows": ((1,) * web.points,), "wide": 3,
           "paper": ("odd", (0, 1)), "word": rng.choice(("point", "tie")), "postings": ((0, 1), (None, 2), (1, None)),
           "columns": 2, "holes": ((0, 1), (1, 1), (0, 0)), "loose": (("row", 1), ("column", 0))}
    if names == ["points", "ties"]:
        fit.update(points=web.points, ties=web.ties)
    if names == ["points", "ties"] and rng.random() < 0.5:
        fit.update(points=3, ties=((0, 1), (2,)))
    if names == ["points"] or "postings" in names:
        fit["points"] = 3
    if "holes" in names:
        fit.update(rows=2, prices=(3, 1, 2))
    if names == ["web", "totals", "read"] and rng.random() < 0.5:
        fit["read"] = (1,) * len(web.ties)
    if names[1:] == ["one", "other", "tie"]:
        fit.update(one=readings_paper(web)[0], other=cheapest_readings(web, range_prices(web)))
    if names == ["web", "signs"]:
        fit["signs"] = (1,) * (web.points if rng.random() < 0.5 else 2 * web.points)
    if "box" not in names and names[:2] == ["web", "one"]:
        fit.update(one=box, other=filled_box(rng, web, 3))
    lists = {name: listed(thing) if name not in ("value", "paper") else thing for name, thing in fit.items()}
    return [{name: kind[name] for name in names} for kind in (fit, lists)]


def range_prices(web):
    """Other prices for each tie, the first ones dear."""
    return tuple(range(len(web.ties), 0, -1))


def listed(thing):
    return [listed(part) for part in thing] if isinstance(thing, tuple) else thing


def result(call, *args, **more):
    try:
        return plain(call(*args, **more))
    except PushError as error:
        return type(error), vars(error)


def plain(thing):
    """What tells results apart, objects by their attributes."""
    if isinstance(thing, tuple):
        return tuple(plain(part) for part in thing)
    return (type(thing), vars(thing)) if isinstance(thing, (Web, Box)) else (type(thing), thing)


def is_told(thing):
    """Whether it is of tuples, integers, bools, strings, None, Webs and Boxes throughout."""
    if isinstance(thing, tuple):
        return all(is_told(part) for part in thing)
    return thing is None or type(thing) in (int, bool, str, Web, Box)


class InterfaceTest(unittest.TestCase):
    def test_names_arguments_and_files(self):
        for module, names in INTERFACE.items():
            with open(importlib.import_module("pushtells." + module).__file__) as file:
                tree = ast.parse(file.read())
            here = [node.name for node in tree.body if isinstance(node, (ast.FunctionDef, ast.ClassDef))]
            for name, parameters in names.items():
                self.assertIn(name, here)
                self.assertEqual(list(inspect.signature(told(module, name)).parameters), parameters.split(), name)

    def test_equality_is_defined_in_the_classes_themselves(self):
        for kind in (Web, Box):
            self.assertIn("__eq__", vars(kind))

    def test_calls_alike(self):
        """By position, by names, as lists: the same; nothing changes; what is told is of tuples."""
        rng = random.Random(5)
        for module, names in INTERFACE.items():
            for name, parameters in names.items():
                for _ in range(12):
                    fit, lists = arguments(parameters.split(), rng)
                    before = copy.deepcopy((fit, lists))
                    answers = [result(told(module, name), *kind.values()) for kind in (fit, lists)]
                    answers += [result(told(module, name), **kind) for kind in (fit, lists)]
                    for answer in answers:
                        self.assertEqual(answer, answers[0], name)
                    self.assertEqual([plain(tuple(kind.values())) for kind in (fit, lists)],
                                     [plain(tuple(kind.values())) for kind in before], name)
                    answer = raised(told(module, name), *fit.values())
                    self.assertTrue(is_told(answer) or issubclass(answer[0], PushError), name)

    def test_objects_are_not_iterable_and_have_no_length(self):
        for thing in (PIPES, Box(PIPES, [(0, 1)] * 3, (0, 0))):
            self.assertRaises(TypeError, iter, thing)
            self.assertRaises(TypeError, len, thing)
            self.assertRaises(TypeError, list, thing)

    def test_any_value_in_place_of_any_argument(self):
        """Where an error is told for it, a wrong value raises one of this package, judges answer True or False."""
        free = {"moved_box": "by"}
        for module, names in INTERFACE.items():
            for name, parameters in names.items():
                for web in (TRIANGLE, MIXED):
                    self.check_any(module, name, parameters.split(), web, free.get(name))

    def check_any(self, module, name, parameters, web, free):
        fit, _ = arguments(parameters, random.Random(1))
        for place in parameters:
            if place == free:
                continue
            for value in JUNK:
                given = dict(fit, **{place: value})
                if place == "value":
                    box = filled_box(random.Random(2), web, 3)
                    fitting = {"web": web, "box": box, "point": 0, "tie": 0, "side": 1, "block": (1,), "which": 2,
                               "lot": (1,), "totals": box.totals, "prices": (1,) * len(web.ties),
                               "signs": (1,) * web.points, "weights": (2,) * len(web.ties), "word": "tie", "number": 1}
                    if "holes" in parameters:
                        fitting = {"rows": 1, "columns": 2, "holes": ((0, 1),), "prices": (3,)}
                    given = {part: fitting.get(part, value) for part in parameters}
                    try:
                        self.assertIn(told(module, name)(**given), (True, False))
                    except PushError as error:
                        self.assertIn(type(error).__name__, ("InvalidBlock", "Refused"))
                    continue
                try:
                    told(module, name)(**given)
                except PushError:
                    pass

    def test_the_package_is_plain_files(self):
        folder = os.path.dirname(importlib.import_module("pushtells").__file__)
        files = sorted(name for name in os.listdir(folder) if name != "__pycache__")
        self.assertTrue(all(name.endswith(".py") for name in files), files)
        self.assertIn("__init__.py", files)


if __name__ == "__main__":
    unittest.main()
