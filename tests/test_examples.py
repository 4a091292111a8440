import unittest

from grownlines.base.grids import Grid, Vector
from grownlines.base.rules import Rule
from grownlines.base.words import is_count, is_integer, is_letter, is_point
from grownlines.decide.counts import count_meetings, cycle_of, is_faulty, layer, orders_of
from grownlines.decide.likeness import agreement, are_alike, is_likeness_paper, parting, turn_between
from grownlines.decide.papers import first_order, is_clear, is_paper, lift, meeting, paper
from grownlines.decide.stands import coming_stands, is_far, is_shown, reach, stand_of, stands_within
from grownlines.decide.tables import Table, pairs_to
from grownlines.errors import Refused
from grownlines.lines.grown import (each_point, grown, length_of, letter_counts, sequel, step_counts, steps_of)
from grownlines.lines.places import (address_of, end_of, is_address, kind_at, nth_step, number_of, point_at, step_at)
from grownlines.lines.schemes import Scheme
from grownlines.measure.boxes import area, box, farthest, total_turn
from grownlines.text.pictures import picture, read_picture
from grownlines.text.shell import Shell
from grownlines.text.texts import read_paper, read_stand, write_address, write_scheme, write_stand
from grownlines.use.bench import Bench
from grownlines.use.changes import begun_scheme, least_scheme, mirrored_scheme, powered, reversed_scheme
from grownlines.visits.kinds import coming, count_kinds, kinds_of, visit_at, visits
from grownlines.visits.meetings import FAULTS, crowds, faults_of, first_meeting, meetings, outline
from grownlines.visits.points import count_at, is_passed, steps_on, visits_at

# The examples of the document, as they stand there.
VALUES = '''
DRAGON = Scheme.from_lines("grid square", "axiom a0", "rule a a0 b1", "rule b a1 b0")
FLAKE = Scheme.from_lines("grid triangle", "axiom a0 a4 a2", "rule a a0 a1 a5 a0")
'''

STAGES = {
    "Stage 1: errors and words": r'''
>>> [is_integer(10 ** 400), is_count(True), is_letter("ab"), is_point((3, -2)), is_point([3, -2])]
[False, False, False, True, False]
''',
    "Stage 2: grids": r'''
>>> square, triangle = Grid("square"), Grid("triangle")
>>> [triangle.product((0, 1), (0, 1)), triangle.turned((2, 1), 3), triangle.conjugate_of((2, 1)), triangle.norm_of((2, 1)), square.quotient((-4, 0), (1, 1))]
[(-1, 1), (-2, -1), (3, -1), 7, (-2, 2)]
>>> [square.quotient((1, 0), (1, 1)), triangle.direction_of((1, -1)), square.alternate((0, 2), (5, 3)), triangle.alternate((0, 2), (3, 4))]
[None, 5, True, False]
>>> vector = Vector(square, (1, 1))
>>> [str(vector * vector), (vector.power(100) // vector.power(98)).point, (-vector).norm, vector[1]]
['0,2', (0, 2), 2, 1]
''',
    "Stage 3: rules": r'''
>>> rule = Rule(Grid("square"), (("a", 0), ("b", 1)))
>>> [str(rule), rule.starts, rule.end, rule.drawn(3), str(rule.backward()), str(rule.mirrored())]
['a0 b1', ((0, 0), (1, 0)), (1, 1), (('a', 3), ('b', 0)), 'b1 a0', 'a0 b3']
>>> [str(rule + rule), "b" in rule, ("b", 0) in rule, rule[1], str(rule.renamed({"a": "b", "b": "b"}))]
['a0 b1 a0 b1', True, False, ('b', 1), 'b0 b1']
''',
    "Stage 4: schemes": r'''
>>> [DRAGON.growth, DRAGON.is_closed, FLAKE.is_closed, DRAGON.is_even, str(DRAGON["b"]), str(FLAKE)]
[(1, 1), False, True, True, 'a1 b0', 'scheme of 1 letters on the triangle grid']
>>> [DRAGON.lines, DRAGON.with_line("axiom b2 b1").axiom, DRAGON.with_line("rule b a1 a0").used]
[('grid square', 'axiom a0', 'rule a a0 b1', 'rule b a1 b0'), (('b', 2), ('b', 1)), ('a', 'b')]
''',
    "Stage 5: grown lines": r'''
>>> [length_of(DRAGON, 200) == 2 ** 200, length_of(FLAKE, 3), steps_of(DRAGON, 2), letter_counts(DRAGON, 3)]
[True, 192, (('a', 0), ('b', 1), ('a', 2), ('b', 1)), {'a': 4, 'b': 4}]
>>> [step_counts(DRAGON, 2), sequel(DRAGON, "b", 1), grown(DRAGON, (("b", 3),)), list(each_point(FLAKE, 0))]
[{('a', 0): 1, ('a', 2): 1, ('b', 1): 2}, (('a', 1), ('b', 0)), (('a', 0), ('b', 3)), [(0, 0), (1, 0), (1, -1)]]
''',
    "Stage 6: places": r'''
>>> [step_at(DRAGON, 4, 9), point_at(DRAGON, 4, 11), point_at(DRAGON, 4, 16), step_at(FLAKE, 200, 0)]
[('b', 3), (-2, 1), (-4, 0), ('a', 0)]
>>> [address_of(DRAGON, 4, 11), number_of(DRAGON, (0, 1, 0, 1, 1)), is_address(DRAGON, (0, 2)), kind_at(DRAGON, 4, 11)]
[(0, 1, 0, 1, 1), 11, False, ('a', 'b', 3)]
>>> [end_of(DRAGON, 100) == (-(2 ** 50), 0), nth_step(DRAGON, 100, "b", 10 ** 20), point_at(FLAKE, 1, 11), address_of(FLAKE, 2, 0)]
[True, 200000000000000000001, (1, -1), (0, 0, 0)]
''',
    "Stage 7: kinds of visits": r'''
>>> [kinds_of(DRAGON), coming(DRAGON, ("b", "a", 1))]
[(('', 'a', 0), ('a', '', 0), ('a', 'b', 1), ('a', 'b', 3), ('b', '', 0), ('b', 'a', 1), ('b', 'a', 3)), ((('b', 'a', 1), 0, (0, 0)), (('a', 'b', 1), 1, (1, 0)))]
>>> [visits(DRAGON, 1), visit_at(DRAGON, 4, (0, 0, 1, 1, 1)), count_kinds(FLAKE, 1)]
[((('', 'a', 0), 0, (0, 0)), (('a', 'b', 1), 1, (1, 0)), (('b', '', 0), 1, (1, 1))), (('a', 'b', 3), 1, (-2, 1)), {('a', 'a', 1): 6, ('a', 'a', 4): 6}]
''',
    "Stage 8: boxes and areas": r'''
>>> [box(DRAGON, 4), area(DRAGON, 2), total_turn(DRAGON, 4), farthest(DRAGON, 4, (0, 1)), farthest(DRAGON, 4, (-1, 0))]
[(-4, -1, 1, 2), 2, 1, (2, 4), (4, 15)]
>>> [area(FLAKE, 0), area(FLAKE, 1), total_turn(FLAKE, 200), box(FLAKE, 1)]
[-1, -12, -6, (0, -3, 4, 1)]
''',
    "Stage 9: visits at a point": r'''
>>> BACK = Scheme.from_lines("grid square", "axiom a0", "rule a a0 a0 a2 a0")
>>> [visits_at(DRAGON, 4, (-2, 1)), steps_on(DRAGON, 4, (0, 2), (0, 1)), is_passed(DRAGON, 4, (0, -1)), is_passed(DRAGON, 4, None)]
[(7, 11), (3,), False, False]
>>> [visits_at(BACK, 1, (1, 0)), steps_on(BACK, 1, (1, 0), (2, 0)), count_at(BACK, 2, (3, 0)), count_at(BACK, 200, (1, 0))]
[(1, 3), (1, 2, 3), 6, 2]
''',
    "Stage 10: meetings by force": r'''
>>> [list(meetings(DRAGON, 4, "point")), faults_of(DRAGON, 4), crowds(DRAGON, 4), first_meeting(DRAGON, "point")]
[[(7, 11)], ('point',), {(-2, 1): (7, 11)}, (4, 7, 11)]
>>> loop = Scheme.from_lines("grid square", "axiom a0 a0 a1 a2 a3 a3", "rule a a0 a0")
>>> [list(meetings(loop, 0, "cross")), list(meetings(loop, 0, "edge")), faults_of(loop, 1), outline(FLAKE, 0)]
[[(1, 5)], [], ('point', 'cross'), {((0, 0), (1, -1)): (2,), ((0, 0), (1, 0)): (0,), ((1, -1), (1, 0)): (1,)}]
''',
    "Stage 11: stands": r'''
>>> [reach(DRAGON), reach(FLAKE), stands_within(DRAGON, ("b", "a", 1))]
[6, 3, {(0, 1): (('b', 'a', 1), ('a', 'b', 1), 1, (1, 0))}]
>>> seen = stand_of(DRAGON, 4, (0, 0, 1, 1, 1), (0, 1, 0, 1, 1))
>>> [seen, [is_shown(DRAGON, seen, fault) for fault in ("point", "edge", "cross")], is_far(DRAGON, seen)]
[(('a', 'b', 3), ('a', 'b', 3), 2, (0, 0)), [True, False, False], False]
>>> coming_stands(DRAGON, seen)
{(0, 0): (('b', 'a', 3), ('b', 'a', 3), 2, (0, 0)), (0, 1): (('b', 'a', 3), ('a', 'b', 3), 1, (-1, 0)), (1, 0): (('a', 'b', 3), ('b', 'a', 3), 3, (0, -1)), (1, 1): (('a', 'b', 3), ('a', 'b', 3), 2, (0, -2))}
''',
    "Stage 12: tables": r'''
>>> table = Table(DRAGON)
>>> [table.order_with("point"), table.order_with("edge"), table.order_with("cross"), seen in table, table.order_of(seen)]
[4, None, None, True, 4]
>>> [Table(FLAKE).order_with(fault) for fault in ("point", "edge", "cross")]
[None, None, None]
>>> list(pairs_to(DRAGON, 0))
[(0, 1, (('', 'a', 0), ('a', '', 0), 0, (1, 0)))]
''',
    "Stage 13: papers": r'''
>>> [is_clear(DRAGON, "edge"), paper(DRAGON, "point")[0], meeting(DRAGON, "point"), first_order(FLAKE, "point")]
[True, 'meets', (4, 7, 11), None]
>>> [is_paper(DRAGON, "point", ("meets", (0, 0, 1, 1, 1), (0, 1, 0, 1, 1))), is_paper(DRAGON, "cross", ("clear", table.kinds, table.stands))]
[True, True]
>>> lift(DRAGON, (0, 0), (0, 1))
(4, (0, 0, 1, 1, 1), (0, 1, 0, 1, 1))
''',
    "Stage 14: meetings counted": r'''
>>> ROAD = Scheme.from_lines("grid square", "axiom a0", "rule a a0 a0")
>>> [[count_meetings(BACK, 1, fault) for fault in FAULTS], count_meetings(DRAGON, 4, "point"), count_meetings(FLAKE, 200, "point")]
[[2, 3, 0], 1, 0]
>>> [cycle_of(ROAD), len(layer(ROAD, 0)), len(layer(ROAD, 2)), len(layer(ROAD, 10 ** 300)), orders_of(ROAD, "point"), is_faulty(BACK, 10 ** 300, "edge")]
[(3, 1), 1, 8, 9, ((), ()), True]
''',
    "Stage 15: likeness": r'''
>>> LEVY = Scheme.from_lines("grid square", "axiom a0", "rule a a0 a1")
>>> SAME = Scheme.from_lines("grid square", "axiom q1", "rule p q1 p0", "rule q q0 p1")
>>> [parting(DRAGON, LEVY), agreement(DRAGON, LEVY, 4), are_alike(DRAGON, SAME), turn_between(DRAGON, SAME), turn_between(LEVY, DRAGON)]
[(2, 2), 2, False, 1, None]
>>> [parting(DRAGON, SAME), is_likeness_paper(LEVY, LEVY, ("alike", (("a", "a"),))), is_likeness_paper(DRAGON, LEVY, ("parts", 3, 2))]
[(0, 0), True, True]
''',
    "Stage 16: changed schemes": r'''
>>> [reversed_scheme(DRAGON).lines[1:], mirrored_scheme(DRAGON).lines[2:], str(powered(DRAGON, 2)["a"]), powered(DRAGON, 3).growth]
[('axiom a2', 'rule a b1 a0', 'rule b b0 a1'), ('rule a a0 b3', 'rule b a3 b0'), 'a0 b1 a2 b1', (-2, 2)]
>>> [begun_scheme(FLAKE, 2).axiom, least_scheme(DRAGON) == DRAGON, least_scheme(DRAGON.with_line("rule b b0 a1")).lines[1:]]
[(('a', 2), ('a', 0), ('a', 4)), True, ('axiom a0', 'rule a a0 a1')]
''',
    "Stage 17: a bench": r'''
>>> bench = Bench(DRAGON)
>>> [bench.demand(("clear", "edge")), bench.demand(("late", "point", 4)), str(bench), "axiom a0" in bench]
[(), (), 'bench with 4 lines, 2 pledges', True]
>>> bench.draw("rule b a0 b1")
raises Refused
>>> [bench.repairs("point"), Bench(LEVY).repairs("edge"), Bench(FLAKE).demand(("draws", FLAKE))]
[(), (), ()]
''',
    "Stage 18: texts, pictures and a shell": r'''
>>> [write_stand((("a", "b", 1), ("", "a", 0), 2, (-1, 3))), read_stand("a.b.1 -.a.0 2 -1,3"), write_address((0, 1, 3)), read_paper("meets 0/1 0/3")]
['a.b.1 -.a.0 2 -1,3', (('a', 'b', 1), ('', 'a', 0), 2, (-1, 3)), '0/1/3', ('meets', (0, 1), (0, 3))]
>>> [picture(DRAGON, 2), read_picture("+-+")]
['+\n|\n+-+\n  |\n+-+', (((0, 0), (1, 0)), (((0, 0), (1, 0)),))]
>>> shell = Shell(write_scheme(DRAGON))
>>> [shell("first point"), shell("clear cross"), shell("length 10"), shell("at 4 7"), shell("count point 4"), shell("picture 1"), shell("fly"), len(shell)]
['4', 'yes', '1024', '-2,1', '1', '  +;   |; +-+', 'what', 6]
''',
}


class Examples(unittest.TestCase):
    def names(self):
        """The names of this module, and the values that most examples use."""
        known = dict(globals())
        exec(VALUES, known)
        return known

    def check(self, text, known):
        """Each line behind `>>> ` is carried out; one that is an expression is followed by its result."""
        lines = text.strip().split("\n")
        results = 0
        for line, following in zip(lines, lines[1:] + [">>> "]):
            if not line.startswith(">>> "):
                continue
            if following.startswith(">>> "):
                exec(line[4:], known)
            elif following.startswith("raises "):
                with self.assertRaises(known[following.split(" ")[1]]):
                    eval(line[4:], known)
                results += 1
            else:
                self.assertEqual(repr(eval(line[4:], known)), following, line)
                results += 1
        self.assertEqual(results, sum(not line.startswith(">>> ") for line in lines))
        self.assertGreater(results, 0)

    def test_all_stages(self):
        # Examples also use names of earlier ones.
        known = self.names()
        for name, text in STAGES.items():
            with self.subTest(name):
                self.check(text, known)


if __name__ == "__main__":
    unittest.main()
