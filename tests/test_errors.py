import unittest

from ringrows import errors

PARTS = {
    "LeagueError": (ValueError, {
        "InvalidFirst": ["value"], "InvalidValues": ["position"], "InvalidRows": ["position"],
        "InvalidNumber": ["value"], "InvalidPlace": ["value"], "InvalidMarks": ["value"],
        "InvalidStep": ["value"], "InvalidStander": ["value"], "InvalidTurned": ["value"],
        "InvalidSize": ["value"], "InvalidTeam": ["value"], "InvalidRound": ["value"],
        "InvalidRounds": ["position"], "InvalidCells": ["position"], "InvalidLegs": ["position"],
        "InvalidCount": ["value"], "InvalidLot": ["position"], "InvalidFixed": ["position"],
        "InvalidGauge": ["position"], "InvalidText": ["line"], "InvalidClaim": ["value"],
        "InvalidCommand": ["value"],
    }),
    "StateError": (RuntimeError, {
        "NotSingle": ["one", "other"], "NotRight": ["size"], "NotOpen": ["home", "away"],
        "Unplayed": ["home", "away"], "NoRound": [], "NothingToUndo": [], "CommandFailed": ["position"],
    }),
    "LimitError": (ArithmeticError, {"TooMany": ["what", "limit"]}),
}

VALUES = [0, -1, 10 ** 60, None, True, False, "", "h", b"a", [], [1, [2]], (), {"a": 1}, object(), print]


def all_kinds():
    return [(getattr(errors, name), getattr(errors, base), names)
            for base, (_, kinds) in PARTS.items() for name, names in kinds.items()]


class TestErrors(unittest.TestCase):
    def test_one_direct_base(self):
        for name, (base, _) in PARTS.items():
            self.assertEqual(getattr(errors, name).__bases__, (base,))
        for kind, base, _ in all_kinds():
            self.assertEqual(kind.__bases__, (base,), kind)

    def test_defined_in_this_file(self):
        for kind, _, _ in all_kinds():
            self.assertEqual(kind.__module__, "ringrows.errors")

    def test_kept_by_position_and_by_name(self):
        for kind, _, names in all_kinds():
            for at in range(len(VALUES)):
                told = [VALUES[(at + k) % len(VALUES)] for k in range(len(names))]
                for error in (kind(*told), kind(**dict(zip(names, told)))):
                    self.assertEqual([getattr(error, name) for name in names], told)
                    self.assertEqual(vars(error), dict(zip(names, told)))

    def test_raised_and_caught(self):
        for kind, base, names in all_kinds():
            with self.assertRaises(base) as caught:
                raise kind(*names)
            self.assertIs(caught.exception.__class__, kind)

    def test_wrong_numbers_of_values(self):
        for kind, _, names in all_kinds():
            with self.assertRaises(TypeError):
                kind(*names, 1)
            if names:
                with self.assertRaises(TypeError):
                    kind()


if __name__ == "__main__":
    unittest.main()
