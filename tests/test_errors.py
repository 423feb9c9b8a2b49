import unittest

import hintslie.errors as errors
from helpers import objects
from hintslie.errors import HintError

PARTS = {
    "BadSystem": "part", "NoPost": "post", "NoRequest": "name", "BadMachine": None, "Unsuited": "name",
    "BadRow": "index", "BadOffsets": None, "BadMode": None, "BadView": None, "BadAsk": None, "BadPost": "post",
    "TooMany": "most", "BadFraction": None, "NotKept": None, "BadStyle": None, "NotNow": None, "BadNumber": None,
    "BadAsks": "index", "TooLarge": None, "BadPosts": None, "BadText": "line", "NoLine": None, "NoName": "name",
    "NoMatch": None, "NothingDone": None,
}


class ErrorsTest(unittest.TestCase):
    def test_all_are_there(self):
        self.assertEqual(len(PARTS), 25)
        found = [name for name, thing in vars(errors).items() if isinstance(thing, type)]
        self.assertEqual(sorted(found), sorted(list(PARTS) + ["HintError"]))

    def test_derive_directly(self):
        self.assertEqual(HintError.__bases__, (ValueError,))
        for name in PARTS:
            self.assertEqual(getattr(errors, name).__bases__, (HintError,), name)

    def test_none_is_a_kind_of_another(self):
        for name in PARTS:
            for other in PARTS:
                kin = issubclass(getattr(errors, name), getattr(errors, other))
                self.assertEqual(kin, name == other, (name, other))

    def test_keep_what_they_are_made_with(self):
        for name, part in PARTS.items():
            if part is not None:
                for thing in objects():
                    error = getattr(errors, name)(thing)
                    self.assertIs(getattr(error, part), thing, name)

    def test_made_with_nothing(self):
        for name, part in PARTS.items():
            if part is None:
                error = getattr(errors, name)()
                self.assertEqual(vars(error), {}, name)
            else:
                with self.assertRaises(TypeError):
                    getattr(errors, name)()

    def test_are_caught_by_their_kinds(self):
        for name, part in PARTS.items():
            kind = getattr(errors, name)
            for caught in (kind, HintError, ValueError):
                with self.assertRaises(caught):
                    raise kind() if part is None else kind(7)


if __name__ == "__main__":
    unittest.main()
