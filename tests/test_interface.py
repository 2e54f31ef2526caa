"""The interface: its names and parameters, each defined in the file under which it is listed."""

import ast
import importlib
import inspect
import pathlib
import unittest

PACKAGE = pathlib.Path(__file__).resolve().parent.parent / "hopkeep"

FUNCTIONS = {
    "fields.is_plain": "(text)", "fields.is_path": "(text)", "fields.is_field_name": "(text)",
    "fields.is_value": "(text)", "fields.list_elements": "(text)", "fields.read_number": "(text)",
    "fields.read_reading": "(text)",
    "messages.Request": "(method, path, fields=(), body='')", "messages.Request.fetch": "(path, *fields)",
    "messages.Response": "(status, fields=(), body='')", "messages.Message.value": "(self, name)",
    "messages.Message.all_values": "(self, name)", "messages.Message.joined": "(self, name)",
    "messages.Message.with_field": "(self, name, value)", "messages.Message.without": "(self, *names)",
    "writer.write_message": "(message, *, chunks=None, trailer=0, open_end=False)",
    "writer.cut": "(text, sizes)",
    "reader.Reader": "(side)", "reader.Reader.feed": "(self, piece)", "reader.Reader.finish": "(self)",
    "reader.read_messages": "(side, text)",
    "pipe.Pipe": "()", "pipe.Pipe.send": "(self, request, *, chunks=None, trailer=0)",
    "pipe.Pipe.take": "(self, piece)", "pipe.Pipe.shut": "(self)",
    "marks.Mark": "(text, weak=False)", "marks.Mark.read": "(text)", "marks.Mark.strongly": "(self, other)",
    "marks.Mark.weakly": "(self, other)", "marks.MarkList": "(marks, star=False)",
    "marks.MarkList.read": "(text)", "marks.MarkList.strongly": "(self, mark)",
    "marks.MarkList.weakly": "(self, mark)", "marks.settled": "(changed, date, margin)",
    "conditions.Current": "(mark, changed)", "conditions.Conditions.of": "(request)",
    "conditions.Conditions.__call__": "(self, current)",
    "conditions.Conditions.takes_part": "(self, current)", "conditions.without_own": "(request)",
    "conditions.checking": "(request, mark, changed)",
    "spans.Spans": "(pairs=())", "spans.Spans.pairs": "(self)", "spans.Spans.bridged": "(self, gap)",
    "ranges.read_ranges": "(text)", "ranges.resolve": "(ranges, length)",
    "ranges.answer_ranges": "(content, text, *, gap=0)", "ranges.read_parts": "(response)",
    "ranges.cheapest_ranges": "(missing, cost)", "ranges.write_ranges": "(spans)",
}
PROPERTIES = ["messages.Message.may_have_body", "messages.Message.start", "reader.Reader.stage",
              "reader.Reader.fault", "reader.Reader.completed", "pipe.Pipe.waiting", "pipe.Pipe.fault",
              "conditions.Conditions.none", "conditions.Conditions.binding", "spans.Spans.size"]
OPERATORS = {"messages.Message": ["__eq__", "__str__"], "marks.Mark": ["__eq__", "__str__"],
             "marks.MarkList": ["__add__", "__len__"],
             "spans.Spans": ["__or__", "__and__", "__sub__", "__contains__", "__eq__", "__len__", "__bool__"]}
DECORATED = {"messages.Request.fetch": classmethod, "conditions.Conditions.of": classmethod,
             "marks.Mark.read": staticmethod, "marks.MarkList.read": staticmethod}


def found(place):
    """The object of the interface with this name."""
    module, *names = place.split(".")
    thing = importlib.import_module("hopkeep." + module)
    for name in names:
        thing = getattr(thing, name)
    return thing


class InterfaceTest(unittest.TestCase):
    def test_signatures(self):
        for place, signature in FUNCTIONS.items():
            self.assertEqual(str(inspect.signature(found(place))), signature, place)

    def test_defined_in_their_files_and_classes(self):
        for place in [*FUNCTIONS, *PROPERTIES]:
            module, *names = place.split(".")
            body = ast.parse((PACKAGE / (module + ".py")).read_text()).body
            for name in names:
                inner = [node for node in body if getattr(node, "name", None) == name]
                self.assertEqual(len(inner), 1, place)
                body = inner[0].body

    def test_kinds_of_methods(self):
        for place in PROPERTIES:
            self.assertIsInstance(found(place), property, place)
        for place, kind in DECORATED.items():
            owner, name = place.rsplit(".", 1)
            self.assertIsInstance(vars(found(owner))[name], kind, place)
        for place, names in OPERATORS.items():
            for name in names:
                self.assertIn(name, vars(found(place)), place)
