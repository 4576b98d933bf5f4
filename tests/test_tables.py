"""Points 5, 6, 8 to 11, and the interface of branchorders/tables.py."""

import copy
import itertools
import random
import unittest
from collections import Counter

from branchorders import tables as tables_file
from branchorders.errors import InvalidNumber, InvalidTable, InvalidWidth, UnlikeInputs
from branchorders.programs import Program
from branchorders.runs import behaviour, run
from branchorders.tables import best_question, program_of, table_of
from helpers import HUGE, BranchTestCase
from models import (
    Model, drawn_program, least_tuples, models_at, ranking_by_words, rankings_by_definition, tuples_of_words,
)

FUNCTIONS = (table_of, program_of, best_question)

LEAST = Program(2, [("cmp", "p", "q"), ("jif", "be", 3), ("mov", "p", "q"), ("out", "p")])


def words_with(ranking, width):
    """Some words of a width that surely have a ranking."""
    ranks, cut = ranking
    half = 2 ** (width - 1)
    return tuple(3 * rank if rank < cut else half + 3 * (rank - cut) + 1 for rank in ranks)


def programs(seed, numbers=((1, 6), (2, 10), (3, 8), (4, 2))):
    drawn = random.Random(seed)
    return [drawn_program(drawn, inputs, drawn.choice((4, 7, 10))) for inputs, many in numbers for _ in range(many)]


def is_of_one_sign(ranking):
    ranks, cut = ranking
    return cut in (0, max(ranks) + 1)


def drawn_table(random, inputs, most=4):
    """A table that a program can do: rankings of one sign are told alike, but perhaps by other inputs."""
    told_by = {}
    table = []
    for ranking in rankings_by_definition(inputs):
        ranks, _ = ranking
        key = (ranks, is_of_one_sign(ranking) or ranking)
        if key not in told_by:
            told_by[key] = [random.randrange(inputs) for _ in range(random.randint(0, most))]
        likes = {number: [other for other in range(inputs) if ranks[other] == ranks[number]] for number in range(inputs)}
        table.append(tuple(random.choice(likes[number]) for number in told_by[key]))
    return table


class TableOfTest(BranchTestCase):

    def test_against_runs(self):
        for program in programs(110):
            table = table_of(program)
            self.assert_same([ranking for ranking, _ in table], rankings_by_definition(program.inputs))
            for ranking, told in table:
                self.assert_same(told, behaviour(program, ranking))
                for width in (5, 300):
                    words = words_with(ranking, width)
                    self.assertEqual(ranking_by_words(width, words), ranking)
                    ending, outs, ring = run(program, width, words)
                    by_inputs = (ending, tuple(map(words.index, outs)), tuple(map(words.index, ring)))
                    self.assert_same(told, by_inputs)

    def test_against_all_words(self):
        for program in programs(111, ((1, 3), (2, 4), (3, 3))):
            table = dict(table_of(program))
            for width in (1, 2, 3):
                for words, model in models_at(program, width):
                    ending, outs, ring = model.behaviour()
                    by_inputs = (ending, tuple(map(words.index, outs)), tuple(map(words.index, ring)))
                    self.assert_same(table[ranking_by_words(width, words)], by_inputs)

    def test_values(self):
        stop = ("stop", (), ())
        self.assert_same(table_of(Program(1, [])), [(((0,), 0), stop), (((0,), 1), stop)])
        self.assert_same([told for _, told in table_of(LEAST)], [
            ("stop", (0,), ()), ("stop", (0,), ()), ("stop", (0,), ()), ("stop", (0,), ()), ("stop", (0,), ()),
            ("stop", (1,), ()), ("stop", (1,), ()), ("stop", (1,), ()),
        ])
        self.assert_same([len(table_of(Program(inputs, []))) for inputs in (1, 2, 3, 4)], [2, 8, 44, 308])

    def test_new_list_each_time(self):
        table = table_of(LEAST)
        table.clear()
        self.assert_same(len(table_of(LEAST)), 8)


class ProgramOfTest(BranchTestCase):

    def check(self, inputs, table, widths=(3, 64, 300)):
        """Returns the number of rows."""
        before = copy.deepcopy(table)
        program = program_of(inputs, table)
        self.assert_same(table, before)
        self.assertIs(type(program), Program)
        self.assertEqual(program.inputs, inputs)
        self.assertLessEqual(len(program), 400)
        told = dict(zip(rankings_by_definition(inputs), table))
        for width in widths:
            for words in tuples_of_words(width, inputs) if width < 4 else [words_with(key, width) for key in told]:
                wanted = tuple(words[number] for number in told[ranking_by_words(width, words)])
                self.assert_same(run(program, width, words), ("stop", wanted, ()))
        return len(program)

    def test_drawn_tables(self):
        drawn = random.Random(112)
        for inputs, many in ((1, 20), (2, 40), (3, 12)):
            for number in range(many):
                self.check(inputs, drawn_table(drawn, inputs, number % 5))

    def test_all_tables_of_one_input(self):
        for many in range(5):
            self.check(1, [(0,) * many] * 2, (1, 2, 3, 300))

    def test_little_tables(self):
        for inputs in (1, 2, 3):
            many = len(rankings_by_definition(inputs))
            for number in range(inputs):
                for told in ((), (number,), (number,) * 4):
                    self.assertLessEqual(self.check(inputs, [told] * many), 5)

    def test_longest_program(self):
        """All rankings that can be told apart are told differently, by four words each."""
        told = list(itertools.product(range(3), repeat=4))
        drawn = random.Random(113)
        for _ in range(5):
            drawn.shuffle(told)
            rankings = rankings_by_definition(3)
            table = [
                told[rankings.index((ranks, 0)) if is_of_one_sign((ranks, cut)) else index]
                for index, (ranks, cut) in enumerate(rankings)
            ]
            self.assertGreater(self.check(3, table), 100)

    def test_inputs_by_other_names(self):
        """Equal words may be told by any of their inputs, also in rankings of one sign."""
        table = [(0, 1), (1, 0), (0,), (1,), (0,), (), (0, 0, 1, 1), ()]
        self.check(2, table, (1, 2, 3, 300))

    def test_tables_of_programs(self):
        """The table of a program that stops and puts out little, and back."""
        found = 0
        for program in programs(114, ((1, 15), (2, 30), (3, 30))):
            table = table_of(program)
            if all(ending == "stop" and len(outs) <= 4 for _, (ending, outs, _) in table):
                made = program_of(program.inputs, [outs for _, (_, outs, _) in table])
                self.assert_same(table_of(made), table)
                found += 1
        self.assertGreater(found, 10)

    def test_least_and_most(self):
        made = program_of(3, [
            (ranks.index(0),) if cut == 0 else (ranks.index(cut % (max(ranks) + 1)),)
            for ranks, cut in rankings_by_definition(3)
        ])
        for words in tuples_of_words(3, 3):
            least = min(words, key=lambda word: word - 8 if word > 3 else word)
            self.assert_same(run(made, 3, words), ("stop", (least,), ()))


class BestQuestionTest(BranchTestCase):

    def greatest_group(self, asked, width, words):
        found = Counter(Model(program, width, words).behaviour() for program in asked)
        return max(found.values())

    def check(self, asked, width, tried):
        before = [program.rows for program in asked]
        sizes = {words: self.greatest_group(asked, width, words) for words in tried}
        wanted = min(tried, key=lambda words: (sizes[words], words))
        self.assert_same(best_question(asked, width), wanted)
        self.assert_same([program.rows for program in asked], before)
        return sizes[wanted]

    def test_against_all_words(self):
        drawn = random.Random(115)
        found = []
        for number in range(40):
            inputs = 1 + number % 3
            asked = [drawn_program(drawn, inputs, 5) for _ in range(1 + number % 6)]
            for width in (1, 2, 3) if inputs < 3 or number % 4 == 0 else (1, 2):
                found.append(self.check(asked, width, tuples_of_words(width, inputs)))
        self.assertGreater(len(set(found)), 2)

    def test_great_widths(self):
        drawn = random.Random(116)
        for number in range(20):
            inputs = 1 + number % 4
            asked = [drawn_program(drawn, inputs, 6) for _ in range(1 + number % 6)]
            for width in (64, 300) if inputs < 4 else (300,):
                self.check(asked, width, least_tuples(width, inputs))

    def test_equal_programs(self):
        half = 2 ** 63
        other = LEAST.exchanged()
        for asked, wanted in (
            ([LEAST], (0, 0)), ([LEAST, LEAST], (0, 0)), ([LEAST, other], (0, half)),
            ([LEAST, LEAST, other], (0, half)), ([LEAST, Program(2, LEAST.rows)] * 3, (0, 0)),
            ([other, LEAST.mirrored(), LEAST], (0, 1)),
        ):
            self.assert_same(best_question(asked, 64), wanted)

    def test_width_one(self):
        two = Program(2, [("cmp", "p", "q"), ("jif", "e", 4), ("jif", "mixed", 4), ("out", "p")])
        self.assert_same([best_question([two, Program(2, [])], width) for width in (1, 2, 300)], [(0, 0), (0, 1), (0, 1)])


class ErrorsTest(BranchTestCase):

    def test_numbers_of_inputs(self):
        for inputs in (0, 4, 5, -1, -HUGE, HUGE):
            for table in ([], [()], [(9,)] * 2, [()] * 308):
                self.assert_error(InvalidNumber, inputs, program_of, inputs, table)

    def test_numbers_of_tuples(self):
        for inputs, many in ((1, 2), (2, 8), (3, 44)):
            for other in (0, 1, many - 1, many + 1, 2 * many, 308):
                if other != many:
                    for told in ((), (0,), (7,), (0,) * 5):
                        self.assert_error(InvalidTable, None, program_of, inputs, [told] * other)

    def test_wrong_tuples(self):
        for inputs in (1, 2, 3):
            good = [()] * len(rankings_by_definition(inputs))
            for wrong in ((0,) * 5, (0,) * 9, (inputs,), (-1,), (0, inputs), (0, 0, -1), (HUGE,), (-HUGE,),
                          (0,) * 4 + (9,)):
                for place in range(len(good)):
                    table = good[:place] + [wrong] + good[place + 1:]
                    self.assert_error(InvalidTable, place, program_of, inputs, table)
                several = good[:1] + [wrong] * (len(good) - 1)
                self.assert_error(InvalidTable, 1, program_of, inputs, several)

    def test_rankings_of_one_sign(self):
        """The ranking without negative words has to be told like that without others."""
        for inputs in (1, 2, 3):
            rankings = rankings_by_definition(inputs)
            for place, (ranks, cut) in enumerate(rankings):
                table = [()] * len(rankings)
                table[place] = (0,)
                first = rankings.index((ranks, max(ranks) + 1))
                if is_of_one_sign((ranks, cut)):
                    self.assert_error(InvalidTable, first, program_of, inputs, table)
                else:
                    self.assertIs(type(program_of(inputs, table)), Program)

    def test_words_of_one_sign(self):
        """Other numbers of the same word are told alike, of another word they are not, nor in another order."""
        rankings = rankings_by_definition(2)
        table = [()] * 8
        ascending, other = rankings.index(((0, 1), 0)), rankings.index(((0, 1), 2))
        for first, second in (((0,), (1,)), ((0, 1), (1, 0)), ((0,), (0, 0)), ((0, 0), (0,)), ((), (1,))):
            table[ascending], table[other] = first, second
            self.assert_error(InvalidTable, other, program_of, 2, table)
        table = [(0, 0), (1, 0)] + [()] * 6
        self.assertIs(type(program_of(2, table)), Program)
        table = [(0, 0), (1,)] + [()] * 6
        self.assert_error(InvalidTable, 1, program_of, 2, table)

    def test_several_things(self):
        table = [(), (0,)] + [()] * 6
        self.assert_error(InvalidTable, 1, program_of, 2, table)
        self.assert_error(InvalidTable, 7, program_of, 2, table[:7] + [(2,)])
        self.assert_error(InvalidTable, 6, program_of, 2, table[:6] + [(0,) * 5, (2,)])
        self.assert_error(InvalidTable, None, program_of, 2, table[:6] + [(2,)])
        self.assert_error(InvalidNumber, 4, program_of, 4, table[:6] + [(2,)])
        # The first ranking of one sign that is not told alike counts, wherever the other one stands.
        several = [()] * 44
        rankings = rankings_by_definition(3)
        several[rankings.index(((2, 1, 0), 0))] = several[rankings.index(((0, 1, 0), 0))] = (1,)
        self.assert_error(InvalidTable, rankings.index(((0, 1, 0), 2)), program_of, 3, several)

    def test_best_question(self):
        for width in (1, 300, 0, -1, -HUGE):
            self.assert_error(InvalidNumber, 0, best_question, [], width)
            for inputs in (1, 2, 3, 4):
                same, other = Program(inputs, []), Program(inputs % 4 + 1, [("jump", 0)])
                for place in range(1, 6):
                    asked = [same] * place + [other] + [Program((inputs + 1) % 4 + 1, []), same][:5 - place]
                    self.assert_error(UnlikeInputs, place, best_question, asked, width)
        for width in (0, -1, -300, -HUGE):
            for asked in ([LEAST], [LEAST, LEAST.exchanged()], [LEAST] * 6):
                self.assert_error(InvalidWidth, width, best_question, asked, width)


class InterfaceTest(BranchTestCase):

    def test_defined_in_this_file(self):
        for function in FUNCTIONS:
            self.assertEqual(function.__module__, "branchorders.tables")
            self.assertIs(getattr(tables_file, function.__name__), function)

    def test_by_name(self):
        self.assert_same(table_of(program=LEAST)[2], (((0, 1), 0), ("stop", (0,), ())))
        self.assert_same(run(program_of(table=[(0,), (0,)], inputs=1), 4, (9,)), ("stop", (9,), ()))
        self.assert_same(best_question(width=8, programs=[LEAST, LEAST.exchanged()]), (0, 128))

    def test_errors_by_name(self):
        self.assert_error(InvalidNumber, 0, program_of, table=[], inputs=0)
        self.assert_error(InvalidTable, None, program_of, table=[], inputs=1)
        self.assert_error(InvalidNumber, 0, best_question, width=0, programs=[])
        self.assert_error(UnlikeInputs, 1, best_question, width=0, programs=[LEAST, Program(1, [])])


if __name__ == "__main__":
    unittest.main()
