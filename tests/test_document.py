import doctest
import inspect
import unittest
from pathlib import Path

from ringrows import forms, words

README = Path(__file__).resolve().parent.parent / "README.md"

# As the document has them, but for the lengths of the lines.
EXAMPLES = '''
>>> from ringrows.forms import Form, above_from, first_above
>>> half = Form(0, [], [(2, -1, 0), (2, 1, 0)])
>>> [half(7), half.period, (half + half).rows(),
...  first_above(half, 10 ** 40 + 1), above_from(Form(1, [9], [(0, 1, 0)]), 3)]
[21, 2, [(1, -1, 0)], 141421356237309504881, 4]
>>> from ringrows.words import Word, first_unlike_place
>>> word = Word("h", "ha", "")
>>> [word.row(5), word.least, word.mark(10 ** 30, 10 ** 30 - 1), word.homes(10 ** 30, 10 ** 30),
...  str(Word("ah", "hh", "h").reduced())]
['hhaha', 1, 'a', 500000000000000000000000000001, 'a|h|']
>>> [first_unlike_place(Word("", "ha", ""), Word("", "hah", "")),
...  first_unlike_place(Word("", "a", "a"), Word("a", "a", ""))]
[(4, 4), None]
'''


class TestDocument(unittest.TestCase):
    def run_examples(self, text):
        test = doctest.DocTestParser().get_doctest(text, {}, "examples", None, 0)
        runner = doctest.DocTestRunner(verbose=False)
        told = []
        runner.run(test, out=told.append)
        self.assertEqual((runner.failures, "".join(told)), (0, ""))
        self.assertGreater(runner.tries, 0)

    def test_examples_of_the_document(self):
        self.run_examples(EXAMPLES)

    def test_examples_of_the_readme(self):
        self.run_examples(README.read_text().replace("```", ""))

    def test_names_and_parameters(self):
        told = {
            forms.Form: ["first", "early", "rows"], forms.Form.level: ["first", "number"],
            forms.same_values: ["one", "other"], forms.first_unlike: ["one", "other"],
            forms.first_above: ["form", "number"], forms.above_from: ["form", "number"],
            words.Word: ["head", "middle", "tail"], words.Word.row: ["self", "places"],
            words.Word.mark: ["self", "places", "place"], words.Word.homes: ["self", "places", "place"],
            words.same_rows: ["one", "other"], words.first_unlike_place: ["one", "other"],
        }
        for named, parameters in told.items():
            self.assertEqual(list(inspect.signature(named).parameters), parameters)
        for module, names in ((forms, ("Form", "same_values", "first_unlike", "first_above", "above_from")),
                              (words, ("Word", "same_rows", "first_unlike_place"))):
            for name in names:
                self.assertEqual(getattr(module, name).__module__, module.__name__)

    def test_methods_stand_in_their_classes(self):
        told = {
            forms.Form: ["level", "first", "begin", "period", "early", "rows", "reduced", "__call__", "__add__",
                         "__radd__", "__sub__", "__mul__", "__rmul__", "__neg__", "__eq__", "__repr__"],
            words.Word: ["head", "middle", "tail", "least", "row", "mark", "homes", "contrary", "reduced",
                         "__eq__", "__str__", "__repr__"],
        }
        for kind, names in told.items():
            for name in names:
                self.assertIn(name, vars(kind))


if __name__ == "__main__":
    unittest.main()
