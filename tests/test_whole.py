"""Points 1, 2, 10 and 11: what the parts of the program say about each other."""

import copy
import random
import unittest

from branchorders.comparing import are_alike, first_difference, parting_width
from branchorders.counting import average_limit, average_steps, count_inputs, nth_input
from branchorders.facts import acting, dead_rows, first_reaching, outcomes_at, simplified
from branchorders.knowledge import closure, count_fulfilling, first_fulfilling
from branchorders.logs import count_fitting, decisions, next_decisions, relations
from branchorders.programs import Program
from branchorders.rankings import (
    count_rankings, count_words, least_width, least_words, nth_ranking, outcome_in, ranking_number, ranking_of,
)
from branchorders.readings import read_program, read_words
from branchorders.runs import behaviour, count_steps, nth_out, run, steps
from branchorders.sessions import Session
from branchorders.tables import best_question, program_of, table_of
from branchorders.texts import show_program, show_words
from branchorders.words import flipped, inverted, outcome
from helpers import OUTCOMES, BranchTestCase
from models import drawn_knowledge, drawn_program, drawn_row, drawn_rows, names_for, tuples_of_words

SORTS = Program(3, [
    ("cmp", "p", "q"), ("jif", "le", 3), ("swap", "p", "q"), ("cmp", "q", "r"), ("jif", "le", 7), ("swap", "q", "r"),
    ("jump", 0), ("out", "p"), ("out", "q"), ("out", "r"),
])


def rankings(items):
    return [nth_ranking(items, number) for number in range(count_rankings(items))]


class CountsTest(BranchTestCase):

    def test_rankings_share_all_words(self):
        for items in (1, 2, 3, 4):
            found = rankings(items)
            for width in (1, 2, 3, 8, 64, 300, 320):
                self.assertEqual(sum(count_words(ranking, width) for ranking in found), 2 ** (width * items))

    def test_five_items(self):
        self.assertEqual(count_fulfilling(5, [], 300), 2 ** 1500)
        found = [nth_ranking(5, number) for number in range(0, 2612, 71)]
        self.assertEqual(found, sorted(found))
        self.assertEqual([ranking_number(ranking) for ranking in found], list(range(0, 2612, 71)))

    def test_knowledge_of_a_ranking(self):
        """All outcomes of a ranking tell it from the others, except where all words have the same sign."""
        for items in (1, 2, 3):
            for ranking in rankings(items):
                pairs = [(i, j) for i in range(items) for j in range(i)]
                known = [(i, j, (outcome_in(ranking, i, j),)) for i, j in pairs]
                ranks, cut = ranking
                many = max(ranks) + 1
                likes = [(ranks, 0), (ranks, many)] if cut in (0, many) else [ranking]
                for width in (1, 2, 3, 300):
                    wanted = sum(count_words(like, width) for like in likes)
                    self.assert_same(count_fulfilling(items, known, width), wanted)
                    firsts = [least_words(like, width) for like in likes]
                    self.assert_same(first_fulfilling(items, known, width), min(filter(None, firsts), default=None))

    def test_widths_of_rankings(self):
        """Point 11, second sentence."""
        for items in (1, 2, 3):
            for width in (1, 2, 3, 4):
                found = {ranking_of(width, words) for words in tuples_of_words(width, items)}
                for ranks, cut in rankings(items):
                    fits = 2 ** (width - 1) >= cut and 2 ** (width - 1) >= max(ranks) + 1 - cut
                    self.assertEqual((ranks, cut) in found, fits)
                    self.assertEqual(least_width((ranks, cut)) <= width, fits)


class OtherOrdersTest(BranchTestCase):
    """Point 11, first sentence, by whole runs."""

    def check(self, change, other, program, width, words):
        ending, outs, ring = run(program, width, words)
        new_words = change(width, words)
        wanted = (ending, change(width, outs), change(width, ring))
        self.assert_same(run(other, width, new_words), wanted)
        self.assert_same(count_steps(other, width, new_words), count_steps(program, width, words))
        rows = [row for row, flag in steps(program, width, words)]
        self.assert_same([row for row, flag in steps(other, width, new_words)], rows)

    def check_both(self, program, width, words):
        self.check(flipped, program.exchanged(), program, width, words)
        self.check(inverted, program.mirrored(), program, width, words)
        self.check(lambda width, words: flipped(width, inverted(width, words)),
                   program.exchanged().mirrored(), program, width, words)

    def test_all_small_words(self):
        drawn = random.Random(12)
        programs = [SORTS] + [Program(3, drawn_rows(drawn, 3, 12)) for _ in range(15)]
        for program in programs:
            for words in tuples_of_words(2, 3):
                self.check_both(program, 2, words)

    def test_drawn_programs(self):
        drawn = random.Random(13)
        for number in range(300):
            inputs = 1 + number % 4
            program = Program(inputs, drawn_rows(drawn, inputs, drawn.choice((5, 10, 30))))
            for width in (1, 3, 64, 300):
                self.check_both(program, width, tuple(drawn.randrange(2 ** width) for _ in range(inputs)))


class SortsTest(BranchTestCase):

    def test_signed_order(self):
        for words in tuples_of_words(3, 3):
            ending, outs, ring = run(SORTS, 3, words)
            self.assert_same(outs, tuple(sorted(words, key=lambda word: word - 8 if word > 3 else word)))
            self.assert_same((ending, ring), ("stop", ()))

    def test_unsigned_order(self):
        for words in tuples_of_words(3, 3):
            self.assert_same(run(SORTS.exchanged(), 3, words)[1], tuple(sorted(words)))
            self.assert_same(run(SORTS.exchanged().mirrored(), 3, words)[1], tuple(sorted(words, reverse=True)))


def drawn_programs(seed, numbers=((1, 8), (2, 14), (3, 10), (4, 2))):
    drawn = random.Random(seed)
    return [drawn_program(drawn, inputs, drawn.choice((4, 7, 10))) for inputs, many in numbers for _ in range(many)]


def others_of(random, program):
    """The program again, with one other row, exchanged, mirrored, and the one that remains of it."""
    rows = program.rows
    rows[random.randrange(len(rows))] = drawn_row(random, names_for(program.inputs), len(rows))
    found = [Program(program.inputs, program.rows), Program(program.inputs, rows), program.exchanged(), program.mirrored()]
    return found + ([simplified(program)] if program.inputs < 4 else [])


class AlikeTest(BranchTestCase):

    def test_alike_if_tables_are_equal(self):
        drawn = random.Random(140)
        found = []
        for program in drawn_programs(141):
            for other in others_of(drawn, program):
                alike = are_alike(program, other)
                found.append(alike)
                self.assertEqual(alike, table_of(program) == table_of(other))
                self.assertEqual(parting_width(program, other) is None, alike)
                for width in (1, 2, 3, 300):
                    words = first_difference(program, other, width)
                    self.assertEqual(words is None, are_alike(program, other, width))
                    if words is not None:
                        self.assertLessEqual(parting_width(program, other), width)
                        self.assertNotEqual(run(program, width, words), run(other, width, words))
        self.assertGreater(min(found.count(True), found.count(False)), 20)

    def test_a_question_parts_two_programs(self):
        """Exactly if their behaviours differ there."""
        drawn = random.Random(142)
        for program in drawn_programs(143):
            for other in others_of(drawn, program):
                for width in (1, 3, 300):
                    words = best_question([program, other], width)
                    parted = run(program, width, words) != run(other, width, words)
                    self.assertEqual(parted, not are_alike(program, other, width))
                    self.assert_same(words, first_difference(program, other, width) or (0,) * program.inputs)

    def test_program_of_a_table(self):
        found = 0
        for program in drawn_programs(144, ((1, 12), (2, 25), (3, 20))):
            table = table_of(program)
            if all(ending == "stop" and len(outs) <= 4 for _, (ending, outs, _) in table):
                made = program_of(program.inputs, [outs for _, (_, outs, _) in table])
                self.assertTrue(are_alike(program, made))
                self.assert_same(parting_width(made, program), None)
                found += 1
        self.assertGreater(found, 8)

    def test_texts(self):
        for program in drawn_programs(145):
            again = read_program(show_program(program))
            self.assertEqual(again, program)
            self.assertTrue(are_alike(again, program))
            self.assert_same(table_of(again), table_of(program))


class RowsTest(BranchTestCase):
    """What several modules say of the rows of a program."""

    def test_reached_rows(self):
        for program in drawn_programs(150):
            for width in (1, 2, 3, 300):
                dead = dead_rows(program, width)
                for row in range(len(program) + 1):
                    many = count_inputs(program, width, ("reach", row))
                    words = first_reaching(program, row, width)
                    self.assertEqual(many == 0, words is None)
                    self.assertEqual(outcomes_at(program, row, "x", "x", width), ("E",) if many else ())
                    if row < len(program):
                        self.assertEqual(row in dead, many == 0)
                        if program.rows[row][0] in ("cmov", "jif"):
                            self.assertEqual(acting(program, row, width) == (), many == 0)
                    if many:
                        self.assert_same(nth_input(program, width, ("reach", row), 0), words)

    def test_rows_of_runs(self):
        for program in drawn_programs(151, ((1, 5), (2, 8), (3, 4))):
            for width in (1, 2):
                for words in tuples_of_words(width, program.inputs):
                    dead = dead_rows(program, width)
                    for row, flag in steps(program, width, words):
                        self.assertNotIn(row, dead)
                        self.assertLessEqual(first_reaching(program, row, width), words)

    def test_rows_left_out(self):
        for program in drawn_programs(152, ((1, 6), (2, 10), (3, 4))):
            rest = simplified(program)
            self.assertTrue(are_alike(program, rest))
            # A row that no run comes to can be left out.
            self.assertEqual(dead_rows(rest), [])


class CountingTest(BranchTestCase):

    def test_steps(self):
        for program in drawn_programs(160, ((1, 5), (2, 8), (3, 4))):
            for width in (1, 2):
                counts = [count_steps(program, width, words) for words in tuples_of_words(width, program.inputs)]
                for many in {0, 1, 2, 3, 5, 8} | set(counts) - {None}:
                    self.assert_same(count_inputs(program, width, ("steps", many, many)), counts.count(many))
                self.assert_same(count_inputs(program, width, ("end", "endless")), counts.count(None))
                self.assertEqual(average_steps(program, width) is None, None in counts)

    def test_averages(self):
        for program in drawn_programs(161):
            for width in (3, 64, 300):
                average, every = average_steps(program, width), 2 ** (width * program.inputs)
                if average is not None:
                    counts = [count_inputs(program, width, ("steps", many, many)) for many in range(60)]
                    self.assertEqual(sum(counts), every)
                    in_all = sum(many * count for many, count in enumerate(counts))
                    self.assertEqual(average[0] * every, in_all * average[1])

    def test_logs(self):
        drawn = random.Random(162)
        for program in drawn_programs(163):
            for width in (2, 64):
                words = tuple(drawn.randrange(2 ** width) for _ in range(program.inputs))
                made = decisions(program, width, words, 21)
                for many in range(min(len(made), 20) + 1):
                    log = [jumped if drawn.random() < 0.7 else None for jumped in made[:many]]
                    self.assertGreater(count_fitting(program, width, log), 0)
                    for first in range(program.inputs):
                        found = relations(program, log, first, 0)
                        self.assertIn(outcome(width, words[first], words[0]), found)
                    coming = "none" if many == len(made) else "taken" if made[many] else "passed"
                    self.assertIn(coming, next_decisions(program, log))

    def test_relations_agree_with_closure(self):
        """A decision behind the compare of two inputs is what is known of them."""
        for condition, outcomes in (("l", ("LB", "LA")), ("be", ("E", "LB", "GB")), ("mixed", ("GB", "LA"))):
            program = Program(3, [("cmp", "p", "q"), ("jif", condition, 2), ("cmp", "q", "r"), ("jif", "a", 4)])
            known = [(0, 1, outcomes), (1, 2, ("GA", "LA"))]
            found = [(i, j, relations(program, [True, True], i, j)) for i in range(3) for j in range(i + 1, 3)]
            self.assert_same(found, closure(3, known))
            for width in (1, 2, 3, 300):
                self.assert_same(count_fitting(program, width, [True, True]), count_fulfilling(3, known, width))


class OtherProgramsTest(BranchTestCase):
    """Point 11: what all modules say of a program and of the exchanged and the mirrored one."""

    def test_counts(self):
        for program in drawn_programs(170):
            for other in (program.exchanged(), program.mirrored()):
                for width in (1, 3, 300):
                    self.assert_same(dead_rows(other, width), dead_rows(program, width))
                    self.assert_same(average_steps(other, width), average_steps(program, width))
                    for query in (("end", "stop"), ("end", "endless"), ("steps", 2, 5), ("first", 0), ("reach", 3)):
                        wanted = count_inputs(program, width, query)
                        self.assert_same(count_inputs(other, width, query), wanted)
                    for log in ([True], [False, None], [None, True, True]):
                        self.assert_same(count_fitting(other, width, log), count_fitting(program, width, log))
                self.assert_same(average_limit(other), average_limit(program))
                self.assert_same(next_decisions(other, [None]), next_decisions(program, [None]))


class SessionsTest(BranchTestCase):

    def test_as_runs_do(self):
        """A session that goes on until it is over or endless has the outputs, the steps and the decisions of the run."""
        drawn = random.Random(180)
        for program in drawn_programs(181):
            for width in (1, 3, 300):
                words = tuple(drawn.randrange(2 ** width) for _ in range(program.inputs))
                ending, outs, ring = run(program, width, words)
                session = Session.of_texts(show_program(program), width, show_words(words))
                self.assert_same(session.go(), "endless" if ending == "endless" else "over")
                made = list(session.log())
                self.assert_same(made, decisions(program, width, words, len(made)))
                stepped = Session(program, width, read_words(show_words(words)))
                done = stepped.step(1000)
                if ending == "endless":
                    self.assert_same(done, 1000)
                    numbers = range(len(stepped.outs))
                    self.assert_same(stepped.outs, [nth_out(program, width, words, number) for number in numbers])
                    many = len(list(stepped.log()))
                    self.assert_same(list(stepped.log()), decisions(program, width, words, many))
                else:
                    self.assert_same(done, count_steps(program, width, words))
                    self.assert_same(tuple(session.outs), outs)
                    self.assertEqual(session, stepped)
                    self.assert_same(made, decisions(program, width, words, 200))
                    self.assertGreater(count_fitting(program, width, made), 0)
                    self.assertIn("none", next_decisions(program, made))

    def test_rows_of_sessions(self):
        drawn = random.Random(182)
        for program in drawn_programs(183, ((1, 5), (2, 8), (3, 6))):
            words = tuple(drawn.randrange(8) for _ in range(program.inputs))
            session = Session(program, 3, words)
            dead = dead_rows(program, 3)
            for row, flag in steps(program, 3, words):
                found = session.registers
                self.assertEqual((session.present_row, row in dead), (row, False))
                self.assertIn(outcome(3, found["p"], found["x"]), outcomes_at(program, row, "p", "x", 3))
                session.step()
                self.assertEqual(session.flag, flag)


class ArgumentsTest(BranchTestCase):
    """Point 2: arguments stay as they are, and what was returned is not kept."""

    def test_arguments_stay(self):
        drawn = random.Random(14)
        for number in range(60):
            inputs = 1 + number % 4
            rows = drawn_rows(drawn, inputs, 12)
            knowledge = drawn_knowledge(drawn, inputs, 4)
            before = copy.deepcopy((rows, knowledge))
            program = Program(inputs, rows)
            words = tuple(drawn.randrange(8) for _ in range(inputs))
            first = (run(program, 3, words), nth_out(program, 3, words, 2), list(steps(program, 3, words)),
                     behaviour(program, ranking_of(3, words)), closure(inputs, knowledge))
            self.assert_same((rows, knowledge), before)
            self.assert_same((program.inputs, program.rows), (inputs, before[0]))
            again = (run(program, 3, words), nth_out(program, 3, words, 2), list(steps(program, 3, words)),
                     behaviour(program, ranking_of(3, words)), closure(inputs, knowledge))
            self.assert_same(first, again)

    def test_arguments_of_all_other_functions_stay(self):
        drawn = random.Random(15)
        for number in range(20):
            inputs = 1 + number % 3
            program = drawn_program(drawn, inputs, 6)
            log, asked = [True, None, False], [program, program.exchanged(), Program(inputs, [])]
            table = [()] * len(rankings(inputs))
            before = copy.deepcopy((log, table, [(one.inputs, one.rows) for one in asked]))
            found = [self.answers(program, log, asked, table) for _ in range(2)]
            self.assert_same((log, table, [(one.inputs, one.rows) for one in asked]), before)
            self.assert_same(found[0], found[1])

    def answers(self, program, log, asked, table):
        first, second, _ = asked
        return (
            are_alike(first, second), parting_width(first, second), first_difference(first, second, 3),
            dead_rows(program), outcomes_at(program, 1, "p", "x"), first_reaching(program, 2, 3),
            simplified(program).rows, count_inputs(program, 3, ("all",)), nth_input(program, 3, ("all",), 1),
            average_steps(program, 3), average_limit(program), count_fitting(program, 3, log),
            relations(program, log, 0, 0), next_decisions(program, log), table_of(program), best_question(asked, 3),
            program_of(program.inputs, table).rows, show_program(program),
            Session(program, 3, (0,) * program.inputs).registers,
        )

    def test_lists_of_arguments_changed_later(self):
        rows = [("out", "p"), ("jump", 0)]
        program = Program(1, rows)
        walk = steps(program, 2, (3,))
        next(walk)
        rows[0] = ("stop",)
        program.rows.clear()
        self.assert_same(list(walk), [(1, None)])
        self.assert_same(run(program, 2, (3,)), ("endless", (), (3,)))
        known = [(0, 1, ("E",))]
        found = closure(2, known)
        known.append((0, 1, ("LB",)))
        self.assert_same(found, [(0, 1, ("E",))])
        found.append(known)
        self.assert_same(closure(2, []), [(0, 1, OUTCOMES)])


if __name__ == "__main__":
    unittest.main()
