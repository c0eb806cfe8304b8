"""The interface: names, arguments, files; and what [1] and [2] say of all of them."""

import ast
import copy
import importlib
import inspect
import os
import random
import unittest

from pushtells.boxes import Box
from pushtells.desk import Desk
from pushtells.errors import PushError
from pushtells.readings import cheapest_readings, readings_paper
from pushtells.sheet import Sheet, sheet_text
from pushtells.texts import box_text, web_text
from pushtells.webs import Web
from tests.helpers import JUNK, MIXED, PIPES, TRIANGLE, filled_box, raised, random_web

INTERFACE = {
    "webs": {"Web": "points ties", "point_ties": "web point", "tie_kind": "web tie", "turned": "web points",
             "struck": "web ties", "part_of": "web points", "side_by_side": "one other", "way_ends": "web way",
             "row_sign": "web row", "components": "web", "ring_count": "web", "parity_paper": "web point",
             "parity_holds": "web point value"},
    "boxes": {"Box": "web bounds totals", "is_within": "web one other", "cut_box": "web box tie least greatest",
              "turned_box": "web box points", "moved_box": "web box tie by", "box_times": "web box many",
              "box_widths": "web box"},
    "signs": {"pull": "web signs tie", "sign_pulls": "web signs", "shortage": "web box signs",
              "signs_show": "web box value", "hanging_parts": "web signs"},
    "blocks": {"blocks": "web", "block_kind": "web block", "block_paper": "web block",
               "block_holds": "web block value"},
    "pieces": {"court1": "web", "court1_paper": "web", "court1_holds": "web value", "bad_paper": "web",
               "bad_holds": "web value", "even_rings": "web", "most_ties": "points", "full_paper": "web",
               "full_holds": "web value"},
    "tighten": {"left_at": "web box point", "looked_at": "web box point", "looked_along": "web box points",
                "is_still": "web box", "tightened": "web box", "round_box": "web box", "rounds": "web box",
                "sweep_row": "web", "sweep_holds": "web value"},
    "endings": {"bound_paper": "web box tie side", "bound_holds": "web box tie side value",
                "nothing_paper": "web box", "nothing_holds": "web box value", "end_paper": "web box",
                "end_holds": "web box value"},
    "cover": {"cover_web": "web", "cover_box": "web box", "put_down": "web row", "lifted": "web z",
              "signs_down": "web signs", "worst_signs": "web box less weights"},
    "fillings": {"filling_holds": "web box value", "fill_paper": "web box", "fill_holds": "web box value"},
    "ends": {"exact_ends": "web box tie", "stop_paper": "web box tie side", "stop_holds": "web box tie side value",
             "all_ends": "web box"},
    "whole": {"whole_filling": "web box", "is_whole_filling": "web box value", "whole_through": "web box tie number",
              "whole_paper": "web box", "whole_holds": "web box value"},
    "courts": {"left_ties": "web", "court2": "web", "court2_paper": "web", "court2_holds": "web value",
               "court3": "web", "court3_paper": "web", "court3_holds": "web value"},
    "fools": {"built_box": "web paper", "level_piece": "web box signs", "fools_paper": "web box which",
              "fools_holds": "web box which value"},
    "totals": {"closed_evens": "web", "web_rank": "web", "free_number": "web", "told_by": "web lot",
               "tie_paper": "web lot tie", "tie_holds": "web lot tie value", "told_values": "web totals read",
               "totals_paper": "web totals", "totals_hold": "web totals value", "fewest_swing": "web",
               "like_ties": "web", "wrong_readings": "web totals read"},
    "readings": {"enough_paper": "web lot", "enough_holds": "web lot value", "readings_paper": "web",
                 "readings_hold": "web value", "exchanged_ties": "web one other tie",
                 "cheapest_readings": "web prices", "cheapest_paper": "web prices",
                 "cheapest_holds": "web prices value", "lot_number": "web lot", "lot_paper": "web lot",
                 "lot_holds": "web lot value", "weighed_count": "web"},
    "sums": {"sum_look": "web box signs", "look_lack": "web box signs", "is_needed": "web signs",
             "needed_signs": "web", "needed_count": "web", "failing_sums": "web box",
             "needed_part": "web box signs", "split_paper": "web signs", "split_holds": "web signs value",
             "cut_bounds": "web box rows", "sum_ends": "web box", "lone_box": "web signs wide",
             "lacking_sums": "web rows"},
    "amiss": {"reach": "web weights signs", "least_widening": "web box weights", "widening_paper": "web box weights",
              "widening_holds": "web box weights value", "greatest_narrowing": "web box weights",
              "narrowing_paper": "web box weights", "narrowing_holds": "web box weights value",
              "least_change": "web box", "change_paper": "web box", "change_holds": "web box value"},
    "single": {"right_total": "web box point", "wrong_points": "web box", "right_tie": "web box tie",
               "wrong_ties": "web box", "single_paper": "web box word number",
               "single_holds": "web box word number value"},
    "kinds": {"accounts_web": "points postings", "alike_web": "points ties", "even_turning": "web",
              "odd_turning": "web", "most_alike": "points", "most_plain": "points", "fullest_alike": "points",
              "fullest_plain": "points"},
    "tables": {"table_web": "rows columns holes loose", "hole_groups": "rows columns holes",
               "is_trusted": "rows columns holes", "fewest_read": "rows columns holes",
               "read_paper": "rows columns holes prices", "read_holds": "rows columns holes prices value"},
    "counts": {"web_count": "kind court points", "nth_web": "kind court points number",
               "web_number": "kind court web"},
    "texts": {"web_text": "web", "read_web": "text", "box_text": "web box", "read_box": "web text"},
    "sheet": {"Sheet": "", "sheet_text": "sheet", "read_sheet": "text"},
    "reasons": {"held_by": "sheet tie side", "held_holds": "sheet tie side value", "why_nothing": "sheet point",
                "why_holds": "sheet point value", "room_of": "sheet mark tie side"},
    "desk": {"Desk": ""},
}
METHODS = {
    ("sheet", "Sheet"): {"do_deed": "deed", "stretch": "tie", "empty_lots": "", "lots": "", "web_now": "",
                         "box_now": "", "undo_deed": "", "redo_deed": "", "watch": "tie", "leave": "tie",
                         "news_if": "deed", "stretches_at": "number", "verdict": "", "settled": "point"},
    ("desk", "Desk"): {"say": "command"},
    ("webs", "Web"): {}, ("boxes", "Box"): {},
}
ATTRIBUTES = {Sheet: ("points", "ties", "deeds", "watched"), Desk: ("sheet",)}
# Of each judge what tells its papers, by the same arguments.
TELLERS = {"webs parity_holds": "parity_paper", "blocks block_holds": "block_paper",
           "pieces court1_holds": "court1_paper",
           "pieces bad_holds": "bad_paper", "pieces full_holds": "full_paper", "tighten sweep_holds": "sweep_row",
           "endings bound_holds": "bound_paper", "endings nothing_holds": "nothing_paper",
           "endings end_holds": "end_paper", "fillings fill_holds": "fill_paper", "ends stop_holds": "stop_paper",
           "whole is_whole_filling": "whole_filling", "whole whole_holds": "whole_paper",
           "courts court2_holds": "court2_paper", "courts court3_holds": "court3_paper",
           "fools fools_holds": "fools_paper", "totals tie_holds": "tie_paper", "totals totals_hold": "totals_paper",
           "readings enough_holds": "enough_paper", "readings readings_hold": "readings_paper",
           "readings cheapest_holds": "cheapest_paper", "readings lot_holds": "lot_paper",
           "sums split_holds": "split_paper", "amiss widening_holds": "widening_paper",
           "amiss narrowing_holds": "narrowing_paper", "amiss change_holds": "change_paper",
           "single single_holds": "single_paper", "tables read_holds": "read_paper", "reasons held_holds": "held_by",
           "reasons why_holds": "why_nothing"}


def told(module, name):
    return getattr(importlib.import_module("pushtells." + module), name)


def arguments(names, rng):
    """Fitting arguments, sequences as tuples and as lists, by the names of the parameters."""
    web = random_web(rng, rng.randint(2, 4), rng.randint(1, 4))
    box = filled_box(rng, web, 3)
    if rng.random() < 0.25:
        box = Box(web, box.bounds, [99] * web.points)
    lot = tuple(rng.sample(range(web.points), rng.randint(1, web.points)))
    fit = {"points": lot, "ties": (0,), "web": web, "box": box, "point": rng.randrange(web.points), "tie": 0,
           "one": web, "other": web, "way": (0,), "row": (), "value": ("odd", (0, 1)), "least": -1, "greatest": 2,
           "by": 3, "many": 2, "bounds": box.bounds, "totals": box.totals, "signs": (1,) * web.points, "side": -1,
           "block": (0,), "row": rng.choice([(), (4,) * (2 * len(web.ties))]), "z": (4,) * len(web.ties), "less": (1,
                                                                                                                   2),
                                                                                                                   "number": 1,
           "weights": (2,) * len(web.ties), "which": 2, "lot": tuple(range(1, len(web.ties))),
           "read": ((0, 1),), "prices": (1,) * len(web.ties), "rows": ((1,) * web.points,), "wide": 3,
           "paper": ("odd", (0, 1)), "word": rng.choice(("point", "tie")), "postings": ((0, 1), (None, 2), (1, None)),
           "mark": rng.choice([("least", 0), ("greatest", 1)]), "columns": 2, "holes": ((0, 1), (1, 1), (0, 0)),
           "loose": (("row", 1), ("column", 0))}
    if names == ["points", "ties"]:
        fit.update(points=web.points, ties=web.ties)
    if "sheet" in names:
        fit.update(sheet=some_sheet(rng), point=rng.randrange(2), value=(("greatest", 0), ("total", 0)))
    if "kind" in names:
        fit.update(points=3, court=rng.randint(1, 3), kind=rng.choice(("accounts", "alike", "signed")))
        fit["web"] = Web(3, rng.choice([[], [(0, 1, 1, 1)], [(0, 1, 1, -1)]]))
    if "text" in names:
        fit["text"] = rng.choice([web_text(web), box_text(web, box), sheet_text(some_sheet(rng))])
    if names == ["points", "ties"] and rng.random() < 0.5:
        fit.update(points=3, ties=((0, 1), (2,)))
    if names == ["points"] or "postings" in names:
        fit["points"] = 3
    if "holes" in names:
        fit.update(rows=2, prices=(3, 1, 2))
    if names == ["web", "totals", "read"] and rng.random() < 0.5:
        fit["read"] = (1,) * len(web.ties)
    if names[1:] == ["one", "other", "tie"]:
        fit.update(one=readings_paper(web)[0], other=cheapest_readings(web, range_prices(web)))
    if names == ["web", "signs"]:
        fit["signs"] = (1,) * (web.points if rng.random() < 0.5 else 2 * web.points)
    if "box" not in names and names[:2] == ["web", "one"]:
        fit.update(one=box, other=filled_box(rng, web, 3))
    lists = {name: listed(thing) if name not in ("value", "paper") else thing for name, thing in fit.items()}
    return [{name: kind[name] for name in names} for kind in (fit, lists)]


def some_sheet(rng):
    """A sheet of two lots; of the one something is left, of the other perhaps nothing."""
    sheet = Sheet()
    for deed in (("point", 5), ("point", rng.randint(0, 9)), ("tie", (0, 1), 0, 3), ("tie", [0, 1], 0, 9), ("tie", (1,
                                                                                                                    1),
                                                                                                                    0,
                                                                                                                    4)):
        sheet.do_deed(deed)
    return sheet


def range_prices(web):
    """Other prices for each tie, the first ones dear."""
    return tuple(range(len(web.ties), 0, -1))


def listed(thing):
    return [listed(part) for part in thing] if isinstance(thing, tuple) else thing


def result(call, *args, **more):
    try:
        return plain(call(*args, **more))
    except PushError as error:
        return type(error), vars(error)


def plain(thing):
    """What tells results apart, objects by their attributes."""
    if isinstance(thing, tuple):
        return tuple(plain(part) for part in thing)
    if isinstance(thing, Sheet):
        return Sheet, sheet_text(thing), thing.deeds, thing.watched
    if isinstance(thing, Desk):
        return Desk, plain(thing.sheet)
    return (type(thing), vars(thing)) if isinstance(thing, (Web, Box)) else (type(thing), thing)


def is_told(thing):
    """Whether it is of tuples, integers, bools, strings, None, Webs and Boxes throughout."""
    if isinstance(thing, tuple):
        return all(is_told(part) for part in thing)
    return thing is None or type(thing) in (int, bool, str, Web, Box, Sheet, Desk)


class InterfaceTest(unittest.TestCase):
    def test_names_arguments_and_files(self):
        for module, names in INTERFACE.items():
            with open(importlib.import_module("pushtells." + module).__file__) as file:
                tree = ast.parse(file.read())
            here = [node.name for node in tree.body if isinstance(node, (ast.FunctionDef, ast.ClassDef))]
            for name, parameters in names.items():
                self.assertIn(name, here)
                self.assertEqual(list(inspect.signature(told(module, name)).parameters), parameters.split(), name)

    def test_methods_are_defined_in_the_classes_themselves(self):
        for (module, name), methods in METHODS.items():
            kind = told(module, name)
            self.assertEqual("__eq__" in vars(kind), kind in (Web, Box))
            for method, parameters in methods.items():
                self.assertIn(method, vars(kind))
                self.assertEqual(list(inspect.signature(vars(kind)[method]).parameters), ["self"] + parameters.split())

    def test_attributes_are_there_from_the_beginning_and_of_tuples(self):
        rng = random.Random(3)
        for thing in (Sheet(), some_sheet(rng), Desk()):
            for name in ATTRIBUTES[type(thing)]:
                self.assertTrue(is_told(vars(thing)[name]))

    def test_methods_by_names(self):
        for _ in range(4):
            one, other = [some_sheet(random.Random(9)) for _ in range(2)]
            for method, value in (("do_deed", ("cut", 0, 1, 2)), ("news_if", ["turn", 0]), ("stretch", 1), ("watch",
                                                                                                            0),
                                                                                                            ("leave",
                                                                                                             0),
                                  ("stretches_at", 3), ("settled", 1), ("do_deed", ["tie", [0, 1, 1, 1], 0, 1])):
                name = METHODS["sheet", "Sheet"][method]
                self.assertEqual(getattr(one, method)(value), getattr(other, method)(**{name: value}))
                self.assertEqual(plain(one), plain(other))
        self.assertEqual(Desk().say(command="point 3"), "0")

    def test_again_behind_other_calls(self):
        """The same calls, in the other order, tell the same."""
        rng = random.Random(7)
        calls = []
        for module, names in INTERFACE.items():
            for name, parameters in names.items():
                for kind in arguments(parameters.split(), rng):
                    calls.append((told(module, name), kind))
        answers = [result(call, **kind) for call, kind in calls]
        again = [result(call, **kind) for call, kind in calls[::-1]]
        self.assertEqual(again[::-1], answers)

    def test_papers_hold_as_they_are_told_and_not_as_lists(self):
        rng = random.Random(8)
        held = {}
        for judge, teller in TELLERS.items():
            module, name = judge.split()
            parameters = INTERFACE[module][teller].split()
            for _ in range(25):
                fit = arguments(parameters, rng)[0]
                try:
                    paper = told(module, teller)(**fit)
                except PushError:
                    continue
                if paper is None and judge not in ("pieces bad_holds",):
                    continue
                held[judge] = True
                self.assertIs(told(module, name)(**fit, value=paper), True, judge)
                if isinstance(paper, tuple):
                    for wrong in (listed(paper), list(paper), (paper,)):
                        self.assertIs(told(module, name)(**fit, value=wrong), False, (judge, wrong))
        self.assertEqual(sorted(set(TELLERS) - set(held)), [])

    def test_calls_alike(self):
        """By position, by names, as lists: the same; nothing changes; what is told is of tuples."""
        rng = random.Random(5)
        for module, names in INTERFACE.items():
            for name, parameters in names.items():
                for _ in range(12):
                    fit, lists = arguments(parameters.split(), rng)
                    before = copy.deepcopy((fit, lists))
                    answers = [result(told(module, name), *kind.values()) for kind in (fit, lists)]
                    answers += [result(told(module, name), **kind) for kind in (fit, lists)]
                    for answer in answers:
                        self.assertEqual(answer, answers[0], name)
                    self.assertEqual([plain(tuple(kind.values())) for kind in (fit, lists)],
                                     [plain(tuple(kind.values())) for kind in before], name)
                    answer = raised(told(module, name), *fit.values())
                    self.assertTrue(is_told(answer) or issubclass(answer[0], PushError), name)

    def test_objects_are_not_iterable_and_have_no_length(self):
        for thing in (PIPES, Box(PIPES, [(0, 1)] * 3, (0, 0)), Sheet(), Desk(), some_sheet(random.Random(1))):
            self.assertRaises(TypeError, iter, thing)
            self.assertRaises(TypeError, len, thing)
            self.assertRaises(TypeError, list, thing)

    def test_any_value_in_place_of_any_argument(self):
        """Where an error is told for it, a wrong value raises one of this package, judges answer True or False."""
        free = {"moved_box": "by"}
        for module, names in INTERFACE.items():
            for name, parameters in names.items():
                for web in (TRIANGLE, MIXED):
                    self.check_any(module, name, parameters.split(), web, free.get(name))

    def check_any(self, module, name, parameters, web, free):
        fit, _ = arguments(parameters, random.Random(1))
        for place in parameters:
            if place == free:
                continue
            for value in JUNK:
                given = dict(fit, **{place: value})
                if place == "value":
                    box = filled_box(random.Random(2), web, 3)
                    fitting = {"web": web, "box": box, "point": 0, "tie": 0, "side": 1, "block": (1,), "which": 2,
                               "lot": (1,), "totals": box.totals, "prices": (1,) * len(web.ties),
                               "signs": (1,) * web.points, "weights": (2,) * len(web.ties), "word": "tie", "number": 1}
                    if "holes" in parameters:
                        fitting = {"rows": 1, "columns": 2, "holes": ((0, 1),), "prices": (3,)}
                    fitting["sheet"] = some_sheet(random.Random(2))
                    given = {part: fitting.get(part, value) for part in parameters}
                    try:
                        self.assertIn(told(module, name)(**given), (True, False))
                    except PushError as error:
                        self.assertIn(type(error).__name__, ("InvalidBlock", "Refused"))
                    continue
                try:
                    told(module, name)(**given)
                except PushError:
                    pass

    def test_the_package_is_plain_files(self):
        folder = os.path.dirname(importlib.import_module("pushtells").__file__)
        files = sorted(name for name in os.listdir(folder) if name != "__pycache__")
        self.assertTrue(all(name.endswith(".py") for name in files), files)
        self.assertIn("__init__.py", files)


if __name__ == "__main__":
    unittest.main()
