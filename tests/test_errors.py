"""[4]: the errors of the program."""

import unittest

from hopkeep import errors

FORMS = {
    "InvalidValue": ("name",), "InvalidMessage": ("kind", "index"), "InvalidFraming": (),
    "ReaderClosed": (), "InvalidMark": ("text",), "InvalidParts": (), "OutOfContent": (),
    "Mixed": ("index",), "Incomplete": ("missing",), "NotJoinable": (), "NoLifetime": (),
    "NoTicket": ("ticket",), "NothingThere": ("path",), "InvalidEvent": ("index",),
    "NothingToUndo": (), "NothingToRedo": (), "InvalidLine": ("text",), "NotCalm": (),
    "InvalidTrace": ("index",),
}
SAMPLES = {"name": "path", "kind": "start", "index": 7, "text": "%%", "missing": [(0, 2)],
           "ticket": 3, "path": "/a"}


class ErrorsTest(unittest.TestCase):
    def test_base_is_a_value_error(self):
        self.assertEqual(errors.HopError.__bases__, (ValueError,))
        self.assertTrue(str(errors.HopError("why")))

    def test_each_is_a_direct_subclass_with_its_attributes(self):
        for name, parameters in FORMS.items():
            kind = getattr(errors, name)
            self.assertEqual(kind.__bases__, (errors.HopError,), name)
            values = [SAMPLES[parameter] for parameter in parameters]
            by_place = kind(*values)
            by_name = kind(**dict(zip(parameters, values)))
            for error in (by_place, by_name):
                self.assertEqual([getattr(error, one) for one in parameters], values, name)
                self.assertEqual(sorted(vars(error)), sorted(parameters), name)
                self.assertIsInstance(str(error), str)

    def test_no_other_errors(self):
        found = [name for name, kind in vars(errors).items() if isinstance(kind, type)]
        self.assertEqual(sorted(found), sorted([*FORMS, "HopError"]))

    def test_parameters_are_required(self):
        for name, parameters in FORMS.items():
            if parameters:
                with self.assertRaises(TypeError):
                    getattr(errors, name)()

    def test_incomplete_copies_its_list(self):
        missing = [(0, 2)]
        error = errors.Incomplete(missing)
        missing.append((4, 5))
        self.assertEqual(error.missing, [(0, 2)])
