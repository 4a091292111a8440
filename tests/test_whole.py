"""What holds over the whole program: one scheme through all of its parts, and the interface as the document lists it."""

import importlib
import inspect
import random
import unittest

from grownlines.decide.counts import count_meetings, cycle_of, is_faulty, layer
from grownlines.decide.likeness import are_alike, is_likeness_paper, likeness_paper
from grownlines.decide.papers import first_order, is_paper, meeting, paper
from grownlines.decide.tables import Table, is_closed_under, pairs_to
from grownlines.errors import Refused, TooMany
from grownlines.lines.grown import each_point, length_of, steps_of
from grownlines.lines.places import end_of
from grownlines.lines.schemes import Scheme
from grownlines.measure.boxes import box
from grownlines.text.pictures import picture, read_picture
from grownlines.text.shell import Shell
from grownlines.text.texts import read_paper, read_scheme, write_paper, write_scheme
from grownlines.use.bench import Bench
from grownlines.use.changes import least_scheme, mirrored_scheme, powered, reversed_scheme, spared, turned_scheme
from grownlines.visits.meetings import FAULTS, faults_of, first_meeting, meetings

from tests.helpers import random_schemes, same

# The arguments of all functions and methods that the document lists, as they stand there.
FUNCTIONS = {
    "base.words": "is_integer(value) is_count(value) is_letter(value) is_point(value)",
    "base.rules": "is_item(grid,value) is_row(grid,value,*,least) write_row(items) read_row(text)",
    "lines.grown": "length_of(scheme,order) letter_counts(scheme,order) step_counts(scheme,order) steps_of(scheme,order) "
                   "sequel(scheme,letter,order) each_step(scheme,order) each_point(scheme,order) grown(scheme,steps)",
    "lines.places": "step_at(scheme,order,number) point_at(scheme,order,number) end_of(scheme,order) "
                    "address_of(scheme,order,number) number_of(scheme,address) is_address(scheme,value) "
                    "kind_at(scheme,order,number) steps_with(scheme,order,letter,number) "
                    "nth_step(scheme,order,letter,index)",
    "visits.kinds": "is_kind(scheme,value) kinds_of(scheme) coming(scheme,kind) visits(scheme,order) "
                    "visit_at(scheme,order,address) is_address_of(scheme,order,value) count_kinds(scheme,order)",
    "measure.boxes": "farthest(scheme,order,weights) box(scheme,order) area(scheme,order) total_turn(scheme,order)",
    "visits.points": "count_at(scheme,order,point) is_passed(scheme,order,value) visits_at(scheme,order,point) "
                     "steps_on(scheme,order,one,other)",
    "visits.meetings": "meetings(scheme,order,fault) has_met(scheme,order,fault) faults_of(scheme,order) "
                       "crowds(scheme,order) outline(scheme,order) first_meeting(scheme,fault)",
    "decide.stands": "reach(scheme) is_stand(scheme,value) stand_of(scheme,order,one,other) is_far(scheme,stand) "
                     "is_shown(scheme,stand,fault) first_stands(scheme) stands_within(scheme,kind) "
                     "coming_stands(scheme,stand)",
    "decide.tables": "is_closed_under(scheme,kinds,stands) pairs_to(scheme,order)",
    "decide.papers": "is_clear(scheme,fault) first_order(scheme,fault) paper(scheme,fault) is_paper(scheme,fault,value) "
                     "meeting(scheme,fault) lift(scheme,one,other)",
    "decide.counts": "count_meetings(scheme,order,fault) layer(scheme,order) cycle_of(scheme) "
                     "is_faulty(scheme,order,fault) orders_of(scheme,fault)",
    "decide.likeness": "are_alike(one,other) parting(one,other) agreement(one,other,order) turn_between(one,other) "
                       "likeness_paper(one,other) is_likeness_paper(one,other,value)",
    "use.changes": "turned_scheme(scheme,turn) mirrored_scheme(scheme) reversed_scheme(scheme) begun_scheme(scheme,index) "
                   "renamed_scheme(scheme,letters) powered(scheme,power) spared(scheme) least_scheme(scheme)",
    "text.texts": "write_scheme(scheme) read_scheme(text) write_stand(stand) read_stand(text) write_address(address) "
                  "read_address(text) write_paper(paper) read_paper(text)",
    "text.pictures": "picture(scheme,order) read_picture(text)",
}
CLASSES = {
    "base.grids.Grid": "__init__(self,name) unit(self,direction) direction_of(self,point) product(self,one,other) "
                       "norm_of(self,point) conjugate_of(self,point) turned(self,point,turn) quotient(self,point,divisor) "
                       "alternate(self,ends,others) __len__(self) __iter__(self) __eq__(self,other) __str__(self)",
    "base.grids.Vector": "__init__(self,grid,point) __getitem__(self,index) __add__(self,other) __sub__(self,other) "
                         "__mul__(self,other) __floordiv__(self,other) __neg__(self) turned(self,turn) mirrored(self) "
                         "power(self,many) __bool__(self) __eq__(self,other) __str__(self)",
    "base.rules.Rule": "__init__(self,grid,items) from_text(grid,text) drawn(self,direction) backward(self) "
                       "mirrored(self) renamed(self,letters) __add__(self,other) __getitem__(self,index) "
                       "__contains__(self,value) __len__(self) __iter__(self) __eq__(self,other) __str__(self)",
    "lines.schemes.Scheme": "__init__(self,grid,axiom,rules) from_lines(*lines) __getitem__(self,letter) "
                            "with_line(self,line) without(self,letter) __contains__(self,value) __len__(self) "
                            "__iter__(self) __eq__(self,other) __str__(self)",
    "decide.tables.Table": "__init__(self,scheme) order_of(self,stand) pair_of(self,stand) wrong(self,fault) "
                           "order_with(self,fault) __contains__(self,value) __len__(self) __iter__(self) "
                           "__eq__(self,other) __str__(self)",
    "use.bench.Bench": "__init__(self,scheme) draw(self,line) erase(self,letter) demand(self,pledge) waive(self,pledge) "
                       "undo(self,*,many=1) redo(self,*,many=1) repairs(self,fault) trial(self) during(self,call) "
                       "twin(self) __contains__(self,value) __len__(self) __iter__(self) __eq__(self,other) __str__(self)",
    "text.shell.Shell": "__init__(self,text) __call__(self,line) answer(self,line) bench(self) __len__(self)",
}
ATTRIBUTES = {
    "Grid": "name half units", "Vector": "grid point norm", "Rule": "grid row letters starts end",
    "Scheme": "grid axiom letters growth lines is_closed is_even used", "Table": "scheme kinds stands",
    "Bench": "scheme pledges"}
CONSTANTS = {
    "base.words": {"MAX_FIGURES": 400}, "base.grids": {"GRIDS": ("square", "triangle")},
    "base.rules": {"MIN_ITEMS": 2, "MAX_ITEMS": 12}, "lines.schemes": {"MAX_LETTERS": 6, "MAX_AXIOM": 12},
    "lines.grown": {"MAX_ORDER": 200, "MAX_STEPS": 5000}, "visits.points": {"MAX_LISTED": 1000},
    "visits.meetings": {"FAULTS": ("point", "edge", "cross"), "MAX_FORCE": 5000}, "decide.tables": {"MAX_TABLE": 20000},
    "decide.counts": {"MAX_CYCLE": 400}, "use.bench": {"MAX_PLEDGES": 10}}


def arguments(function):
    return str(inspect.signature(function)).replace(" ", "")


class Interface(unittest.TestCase):
    def test_functions(self):
        for module, listed in FUNCTIONS.items():
            loaded = importlib.import_module(f"grownlines.{module}")
            for text in listed.split():
                name = text.partition("(")[0]
                function = getattr(loaded, name)
                self.assertEqual(name + arguments(function), text)
                self.assertEqual(function.__module__, loaded.__name__)

    def test_classes(self):
        for path, listed in CLASSES.items():
            module, _, name = path.rpartition(".")
            known = getattr(importlib.import_module(f"grownlines.{module}"), name)
            self.assertEqual((known.__module__, known.__name__), (f"grownlines.{module}", name))
            for text in listed.split():
                method = text.partition("(")[0]
                self.assertIn(method, vars(known))
                self.assertEqual(method + arguments(getattr(known, method)), text)

    def test_attributes(self):
        dragon = Scheme.from_lines("grid square", "axiom a0", "rule a a0 b1", "rule b a1 b0")
        from grownlines.base.grids import Vector
        objects = [dragon.grid, Vector(dragon.grid, (1, 2)), dragon["a"], dragon, Table(dragon), Bench(dragon)]
        for own in objects:
            for name in ATTRIBUTES[type(own).__name__].split():
                self.assertTrue(hasattr(own, name), (own, name))

    def test_constants(self):
        for module, known in CONSTANTS.items():
            loaded = importlib.import_module(f"grownlines.{module}")
            for name, value in known.items():
                self.assertTrue(same(getattr(loaded, name), value))


def drawn_schemes(seed, many):
    """Schemes of both grids with tables that are not great."""
    found = []
    for scheme in random_schemes(seed, many):
        try:
            table = Table(scheme)
        except TooMany:
            continue
        if len(table) < 2500:
            found.append((scheme, table))
    return found


class OneScheme(unittest.TestCase):
    schemes = drawn_schemes(77, 40)

    def test_both_grids(self):
        names = [scheme.grid.name for scheme, _ in self.schemes]
        self.assertGreater(min(names.count(name) for name in ("square", "triangle")), 8)

    def test_exactly_one_of_two(self):
        for scheme, table in self.schemes:
            self.assertIs(is_closed_under(scheme, table.kinds, table.stands), True)
            for fault in FAULTS:
                order = first_order(scheme, fault)
                value = paper(scheme, fault)
                self.assertEqual(value[0], "clear" if order is None else "meets")
                self.assertIs(is_paper(scheme, fault, value), True)
                self.assertIs(is_paper(scheme, fault, ("clear", table.kinds, table.stands)), order is None)
                self.assertTrue(order is None or order <= len(table) + len(table.kinds))
                self.assertIs(is_paper(scheme, fault, read_paper(write_paper(value))), True)

    def test_lines_by_force(self):
        for scheme, table in self.schemes:
            turn, period = cycle_of(scheme)
            order = 0
            while length_of(scheme, order) <= 300:
                found = faults_of(scheme, order)
                for fault in FAULTS:
                    self.assertEqual(count_meetings(scheme, order, fault), len(list(meetings(scheme, order, fault))))
                    self.assertIs(is_faulty(scheme, order, fault), fault in found)
                stands = sorted({stand for _, _, stand in pairs_to(scheme, order)})
                self.assertEqual(list(layer(scheme, order)), stands)
                self.assertTrue(all(table.order_of(stand) <= order for stand in stands))
                points = list(each_point(scheme, order))
                self.assertEqual(box(scheme, order), (min(x for x, _ in points), min(y for _, y in points),
                                                      max(x for x, _ in points), max(y for _, y in points)))
                self.assertEqual(end_of(scheme, order), (0, 0) if scheme.is_closed else points[-1])
                order += 1
            for fault in FAULTS:
                told = first_meeting(scheme, fault)
                if told is not None:
                    self.assertEqual(meeting(scheme, fault), told)
            self.assertGreater(turn + period, 0)

    def test_changed_schemes(self):
        for scheme, table in self.schemes[:20]:
            changed = [turned_scheme(scheme, 1), mirrored_scheme(scheme), reversed_scheme(scheme), spared(scheme)]
            for own in changed:
                for fault in FAULTS:
                    self.assertEqual(first_order(own, fault), table.order_with(fault))
            if scheme.is_even:
                least = least_scheme(scheme)
                self.assertIs(are_alike(scheme, least), True)
                self.assertIs(is_likeness_paper(scheme, least, likeness_paper(scheme, least)), True)
                self.assertEqual([first_order(least, fault) for fault in FAULTS],
                                 [table.order_with(fault) for fault in FAULTS])
            try:
                double = powered(scheme, 2)
            except TooMany:
                continue
            for fault in FAULTS:
                self.assertIs(is_faulty(double, 10, fault), is_faulty(scheme, 20, fault))

    def test_texts_and_pictures(self):
        for scheme, _ in self.schemes:
            self.assertEqual(read_scheme(write_scheme(scheme)), scheme)
            if scheme.grid.name == "square" and length_of(scheme, 2) <= 400:
                points, edges = read_picture(picture(scheme, 2))
                self.assertEqual(len(points), len(set(each_point(scheme, 2))))
                self.assertLessEqual(len(edges), len(steps_of(scheme, 2)))

    def test_benches_and_shells(self):
        draw = random.Random(4)
        for scheme, table in self.schemes[:12]:
            bench, shell = Bench(scheme), Shell(write_scheme(scheme))
            for fault in FAULTS:
                order = table.order_with(fault)
                self.assertEqual(shell(f"first {fault}"), "none" if order is None else str(order))
                self.assertEqual(shell(f"count {fault} 9"), str(count_meetings(scheme, 9, fault)))
                pledge = ("clear", fault) if order is None else ("late", fault, order)
                self.assertEqual(bench.demand(pledge), ())
                self.assertEqual(shell("demand " + " ".join(str(part) for part in pledge)), "nothing")
            line = f"axiom {draw.choice(scheme.used)}0"
            try:
                bench.draw(line)
                self.assertNotIn(shell(f"draw {line}").split(" ")[0], ("refused", "line", "scheme", "many"))
            except Refused as error:
                self.assertEqual(shell(f"draw {line}"), "refused " + " ".join(str(part) for part in error.pledge))
            except TooMany:
                self.assertEqual(shell(f"draw {line}"), "many 20000")
            self.assertTrue(shell.bench() == bench)


if __name__ == "__main__":
    unittest.main()
