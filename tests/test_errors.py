"""The errors and their fields."""

import unittest

from frameplaces import errors

FIELDS = {
    "BadProgram": "line",
    "NoCell": "name",
    "BadLot": "index",
    "Outermost": "name",
    "BadName": "name",
    "Taken": "name",
    "NoGuard": "name",
    "Barred": "names",
    "NoLine": "line",
    "NothingToUndo": None,
}
WORTHS = {"line": 7, "index": 3, "name": "abc", "names": ["a", "b"]}


class Errors(unittest.TestCase):
    def test_frame_error(self):
        self.assertEqual(errors.FrameError.__bases__, (ValueError,))
        self.assertEqual(errors.FrameError.__module__, "frameplaces.errors")

    def test_all_derive_directly(self):
        for name in FIELDS:
            made = getattr(errors, name)
            self.assertEqual(made.__bases__, (errors.FrameError,), name)
            self.assertEqual(made.__module__, "frameplaces.errors", name)

    def test_fields(self):
        for name, field in FIELDS.items():
            made = getattr(errors, name)
            if field is None:
                self.assertEqual(vars(made()), {})
            else:
                self.assertEqual(vars(made(WORTHS[field])), {field: WORTHS[field]}, name)
                self.assertEqual(vars(made(**{field: WORTHS[field]})), {field: WORTHS[field]}, name)

    def test_raised_and_shown(self):
        for name, field in FIELDS.items():
            made = getattr(errors, name)
            with self.assertRaises(errors.FrameError) as caught:
                raise made(*[WORTHS[field]] if field else [])
            self.assertTrue(str(caught.exception))

    def test_barred_copies_its_list(self):
        names = ["a"]
        error = errors.Barred(names)
        names.append("b")
        self.assertEqual(error.names, ["a"])


if __name__ == "__main__":
    unittest.main()
