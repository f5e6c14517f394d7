import doctest
import inspect
import unittest
from pathlib import Path

from ringrows import (along, behind, boards, breaks, desk, forms, judge, lines, lots, mends, pictures, rules, seasons,
                      seats, tables, texts, views, words)

README = Path(__file__).resolve().parent.parent / "README.md"

# As the document has them, but for the lengths of the lines.
EXAMPLES = '''
>>> from ringrows.forms import Form, above_from, first_above
>>> half = Form(0, [], [(2, -1, 0), (2, 1, 0)])
>>> [half(7), half.period, (half + half).rows(),
...  first_above(half, 10 ** 40 + 1), above_from(Form(1, [9], [(0, 1, 0)]), 3)]
[21, 2, [(1, -1, 0)], 141421356237309504881, 4]
>>> from ringrows.words import Word, first_unlike_place
>>> word = Word("h", "ha", "")
>>> [word.row(5), word.least, word.mark(10 ** 30, 10 ** 30 - 1), word.homes(10 ** 30, 10 ** 30),
...  str(Word("ah", "hh", "h").reduced())]
['hhaha', 1, 'a', 500000000000000000000000000001, 'a|h|']
>>> [first_unlike_place(Word("", "ha", ""), Word("", "hah", "")),
...  first_unlike_place(Word("", "a", "a"), Word("a", "a", ""))]
[(4, 4), None]
>>> from ringrows.rules import Rule
>>> from ringrows.seats import first_wrong, mark_of, opponent, rounds_of, seat
>>> known = Rule(1, Word("", "ha", ""), "even")
>>> [seat(known, 6, 3, 1), opponent(known, 6, 3, 1), mark_of(known, 6, 3, 1),
...  rounds_of(known, 6, 3, 4), rounds_of(known, 6, 3, 5)]
[2, 4, 'a', [1], [3]]
>>> [first_wrong(Rule(6, Word("hh", "a", ""), "home")), first_wrong(Rule(-4, Word("", "a", ""), "odd")), str(known)]
[10, None, '1 |ha| even plain']
>>> from ringrows.lines import breaks_in, first_odd_pair, followings, stays_in
>>> from ringrows.tables import Table, table_of
>>> small = table_of(known, 4)
>>> [small.rounds(), [small.row_of(team) for team in range(4)], stays_in("hhaaah")]
[[[(1, 2), (3, 0)], [(1, 3), (2, 0)], [(0, 1), (3, 2)]], ['aah', 'hha', 'aha', 'hah'], [2, 3, 1]]
>>> [first_odd_pair(table_of(Rule(3, Word("", "h", ""), "home"), 4)), breaks_in("ahh"),
...  followings(small)[(0, 1)], (0, 2) in followings(small)]
[(0, 1, 0), 1, 1, False]
>>> from ringrows.pictures import Picture
>>> from ringrows.views import bound, first_seen, form_of, number_at
>>> twice = Picture([(0, 0, "h"), (0, 1, "h")])
>>> [form_of(known, twice), number_at(known, 10 ** 30, twice), first_seen(known, twice), bound(known, twice)]
[Form(1, [], [(0, 1, 0)]), 499999999999999999999999999999, (4, 0, 1), 4]
>>> first_seen(known, Picture([(0, 0, "h"), (0, 1, "h"), (0, 2, "h")])) is None
True
>>> from ringrows.breaks import breaks_at, breaks_form, is_thrifty
>>> from ringrows.seasons import repeats, season_breaks, season_rounds
>>> [breaks_at(known, 6), breaks_form(known), is_thrifty(known), season_rounds(6, [(1, -1, True)])]
[4, Form(1, [], [(0, 2, 0)]), True, [1, 0, 4, 3, 2]]
>>> [repeats(4, [(0, 1, False), (2, 1, True)]), season_breaks(known, 4, [(0, 1, False), (0, 1, True)])]
[[0], 6]
>>> from ringrows.along import break_round, breaks_until, home_round, homes_until, stay_at
>>> [homes_until(known, 6, 3, 5), breaks_until(known, 6, 3, 5), home_round(known, 6, 3, 2),
...  break_round(known, 6, 3, 1), stay_at(known, 6, 3, 3)]
[3, 1, 2, 2, (2, 3)]
>>> homes_until(known, 10 ** 40, 10 ** 40 - 1, 10 ** 39 + 1)
500000000000000000000000000000000000001
>>> from ringrows.behind import rule_behind
>>> from ringrows.lots import lacking_lot, room
>>> from ringrows.mends import mend, mend_size, shown
>>> [room(["haa", "haa", "ahh", "ahh"], (0, 2)), lacking_lot(["haa", "haa", "ahh", "ahh"]), rule_behind(small)]
[3, (0, 1), Rule(1, Word('', 'h', ''), 'even', False)]
>>> lean = Table([[(0, 1), (2, 3)], [(0, 2), (1, 3)], [(0, 3), (1, 2)]])
>>> [mend(lean), mend_size(lean, [(0, 3)]), shown(lean, [], [0, 0, 0, 1])]
[[(0, 3)], 2, 1]
>>> from ringrows.desk import Desk
>>> desk = Desk(known, 4)
>>> desk.do_all("round", "play 1 2 3 1", "put off 3 0", "next", "waiting", "play 3 0 2 2", "points 0", "table", "undo",
...             "round")
['1-2 3-0', 'done', 'done', 'done', '3-0', 'done', '1', '1 0 3 2', 'done', '1-3 2-0']
'''

# The functions and classes that the interface lists for each file.
NAMES = {
    forms: ["Form", "same_values", "first_unlike", "first_above", "above_from"],
    words: ["Word", "same_rows", "first_unlike_place"],
    rules: ["Rule"],
    seats: ["seat", "opponent", "mark_of", "rounds_of", "is_right", "is_always_right", "first_wrong"],
    tables: ["Table", "table_of"],
    boards: ["Board"],
    lines: ["breaks_in", "stays_in", "is_single", "first_odd_pair", "followings"],
    pictures: ["Picture"],
    views: ["is_seen", "number_in", "number_at", "bound", "form_of", "first_seen", "first_more", "seen_sizes",
            "more_from"],
    breaks: ["breaks_at", "breaks_form", "is_thrifty", "first_wasteful"],
    seasons: ["season_rounds", "season_row", "season_breaks", "border_breaks", "season_form", "repeats", "pair_homes"],
    along: ["homes_until", "breaks_until", "home_round", "break_round", "stay_at"],
    lots: ["room", "is_lacking", "lacking_lot"],
    mends: ["is_even", "mend", "mend_size", "is_mend", "shown", "gauge_of"],
    behind: ["is_behind", "rule_behind"],
    texts: ["read_word", "read_rule", "read_picture", "table_text", "read_table"],
    judge: ["is_claim", "is_true", "paper", "is_paper", "is_right_form", "is_right_for_breaks"],
    desk: ["Desk"],
}


class TestDocument(unittest.TestCase):
    def run_examples(self, text):
        test = doctest.DocTestParser().get_doctest(text, {}, "examples", None, 0)
        runner = doctest.DocTestRunner(verbose=False)
        told = []
        runner.run(test, out=told.append)
        self.assertEqual((runner.failures, "".join(told)), (0, ""))
        self.assertGreater(runner.tries, 0)

    def test_examples_of_the_document(self):
        self.run_examples(EXAMPLES)

    def test_examples_of_the_readme(self):
        self.run_examples(README.read_text().replace("```", ""))

    def test_names_and_parameters(self):
        told = {
            forms.Form: ["first", "early", "rows"], forms.Form.level: ["first", "number"],
            forms.same_values: ["one", "other"], forms.first_unlike: ["one", "other"],
            forms.first_above: ["form", "number"], forms.above_from: ["form", "number"],
            words.Word: ["head", "middle", "tail"], words.Word.row: ["self", "places"],
            words.Word.mark: ["self", "places", "place"], words.Word.homes: ["self", "places", "place"],
            words.same_rows: ["one", "other"], words.first_unlike_place: ["one", "other"],
            rules.Rule: ["step", "word", "stander", "turned"],
            seats.seat: ["rule", "size", "team", "day"], seats.opponent: ["rule", "size", "team", "day"],
            seats.mark_of: ["rule", "size", "team", "day"], seats.rounds_of: ["rule", "size", "one", "other"],
            seats.is_right: ["rule", "size"], seats.is_always_right: ["rule"], seats.first_wrong: ["rule"],
            tables.Table: ["rounds"], tables.Table.meetings: ["self", "day"], tables.Table.row_of: ["self", "team"],
            tables.Table.met_in: ["self", "one", "other"], tables.Table.with_turned: ["self", "meetings"],
            tables.table_of: ["rule", "size"], boards.Board: ["table"], boards.Board.turn: ["self", "one", "other"],
            boards.Board.take: ["self", "other"], lines.breaks_in: ["marks"], lines.stays_in: ["marks"],
            lines.is_single: ["table"], lines.first_odd_pair: ["table"], lines.followings: ["table"],
            pictures.Picture: ["cells"], views.is_seen: ["rule", "size", "picture", "day", "team"],
            views.number_in: ["rule", "size", "picture", "day"], views.number_at: ["rule", "size", "picture"],
            views.bound: ["rule", "picture"], views.form_of: ["rule", "picture"],
            views.first_seen: ["rule", "picture"], views.first_more: ["rule", "picture", "other"],
            views.seen_sizes: ["rule", "picture"], views.more_from: ["rule", "picture", "other"],
            breaks.breaks_at: ["rule", "size"], breaks.breaks_form: ["rule"], breaks.is_thrifty: ["rule"],
            breaks.first_wasteful: ["rule"],
            seasons.season_rounds: ["size", "legs"], seasons.season_row: ["rule", "size", "legs", "team"],
            seasons.season_breaks: ["rule", "size", "legs"],
            seasons.border_breaks: ["rule", "size", "legs", "border"], seasons.season_form: ["rule", "legs"],
            seasons.repeats: ["size", "legs"], seasons.pair_homes: ["rule", "size", "legs", "one", "other"],
            along.homes_until: ["rule", "size", "team", "rounds"],
            along.breaks_until: ["rule", "size", "team", "rounds"],
            along.home_round: ["rule", "size", "team", "number"],
            along.break_round: ["rule", "size", "team", "number"], along.stay_at: ["rule", "size", "team", "day"],
            lots.room: ["rows", "lot"], lots.is_lacking: ["rows", "lot"], lots.lacking_lot: ["rows"],
            mends.is_even: ["table"], mends.mend: ["table", "fixed"], mends.mend_size: ["table", "fixed"],
            mends.is_mend: ["table", "fixed", "value"], mends.shown: ["table", "fixed", "gauge"],
            mends.gauge_of: ["table", "fixed"], behind.is_behind: ["rule", "table"], behind.rule_behind: ["table"],
            texts.read_word: ["text"], texts.read_rule: ["text"], texts.read_picture: ["text"],
            texts.table_text: ["table"], texts.read_table: ["text"], judge.is_claim: ["value"],
            judge.is_true: ["claim"], judge.paper: ["claim"], judge.is_paper: ["claim", "value"],
            judge.is_right_form: ["rule", "picture", "value"], judge.is_right_for_breaks: ["rule", "value"],
            desk.Desk: ["rule", "size"], desk.Desk.do: ["self", "command"], desk.Desk.do_all: ["self", "commands"],
            desk.Desk.trial: ["self"], desk.Desk.tried: ["self", "action"], desk.Desk.results: ["self"],
        }
        for named, parameters in told.items():
            self.assertEqual(list(inspect.signature(named).parameters), parameters)
        for named in (mends.mend, mends.mend_size, mends.gauge_of):
            self.assertEqual(inspect.signature(named).parameters["fixed"].default, ())
        for module, names in NAMES.items():
            for name in names:
                self.assertEqual(getattr(module, name).__module__, module.__name__)

    def test_methods_stand_in_their_classes(self):
        told = {
            forms.Form: ["level", "first", "begin", "period", "early", "rows", "reduced", "__call__", "__add__",
                         "__radd__", "__sub__", "__mul__", "__rmul__", "__neg__", "__eq__", "__repr__"],
            words.Word: ["head", "middle", "tail", "least", "row", "mark", "homes", "contrary", "reduced",
                         "__eq__", "__str__", "__repr__"],
            rules.Rule: ["step", "word", "stander", "turned", "least_size", "contrary", "__eq__", "__str__",
                         "__repr__"],
            tables.Table: ["size", "rounds", "meetings", "row_of", "met_in", "with_turned", "__len__", "__eq__",
                           "__repr__"],
            boards.Board: ["table", "take", "turn", "__getitem__", "__setitem__", "__iadd__", "__len__"],
            pictures.Picture: ["cells", "span", "contrary", "__eq__", "__str__", "__repr__"],
            desk.Desk: ["do", "do_all", "trial", "tried", "open_round", "undoable", "results"],
        }
        for kind, names in told.items():
            for name in names:
                self.assertIn(name, vars(kind))


if __name__ == "__main__":
    unittest.main()
