"""The interface: its names and parameters, each defined in the file under which it is listed."""

import ast
import importlib
import inspect
import pathlib
import unittest

PACKAGE = pathlib.Path(__file__).resolve().parent.parent / "hopkeep"

MAKE = ("(*, shared=True, grace=0, error_grace=0, tells=True, dates=False, checks=True, share=0, cap=0, "
        "durable=False, room=8)")
FUNCTIONS = {
    "fields.is_plain": "(text)", "fields.is_path": "(text)", "fields.is_field_name": "(text)",
    "fields.is_value": "(text)", "fields.list_elements": "(text)", "fields.read_number": "(text)",
    "fields.read_reading": "(text)",
    "messages.Request": "(method, path, fields=(), body='')", "messages.Request.fetch": "(path, *fields)",
    "messages.Response": "(status, fields=(), body='')", "messages.Message.value": "(self, name)",
    "messages.Message.all_values": "(self, name)", "messages.Message.joined": "(self, name)",
    "messages.Message.with_field": "(self, name, value)", "messages.Message.without": "(self, *names)",
    "writer.write_message": "(message, *, chunks=None, trailer=0, open_end=False)",
    "writer.cut": "(text, sizes)",
    "reader.Reader": "(side)", "reader.Reader.feed": "(self, piece)", "reader.Reader.finish": "(self)",
    "reader.read_messages": "(side, text)",
    "pipe.Pipe": "()", "pipe.Pipe.send": "(self, request, *, chunks=None, trailer=0)",
    "pipe.Pipe.take": "(self, piece)", "pipe.Pipe.shut": "(self)",
    "marks.Mark": "(text, weak=False)", "marks.Mark.read": "(text)", "marks.Mark.strongly": "(self, other)",
    "marks.Mark.weakly": "(self, other)", "marks.MarkList": "(marks, star=False)",
    "marks.MarkList.read": "(text)", "marks.MarkList.strongly": "(self, mark)",
    "marks.MarkList.weakly": "(self, mark)", "marks.settled": "(changed, date, margin)",
    "conditions.Current": "(mark, changed)", "conditions.Conditions.of": "(request)",
    "conditions.Conditions.__call__": "(self, current)",
    "conditions.Conditions.takes_part": "(self, current)", "conditions.without_own": "(request)",
    "conditions.checking": "(request, mark, changed)",
    "spans.Spans": "(pairs=())", "spans.Spans.pairs": "(self)", "spans.Spans.bridged": "(self, gap)",
    "ranges.read_ranges": "(text)", "ranges.resolve": "(ranges, length)",
    "ranges.answer_ranges": "(content, text, *, gap=0)", "ranges.read_parts": "(response)",
    "ranges.cheapest_ranges": "(missing, cost)", "ranges.write_ranges": "(spans)",
    "partial.Partial": "(mark, length)", "partial.Partial.put": "(self, start, text)",
    "partial.Partial.have": "(self)", "partial.Partial.lacking": "(self)", "partial.Partial.whole_text": "(self)",
    "partial.Partial.stretch": "(self, start, end)", "partial.Partial.copy": "(self)",
    "partial.Partial.join": "(self, other)", "partial.Partial.joined": "(self, other)",
    "variants.Variant": "(form, tongue, coding, content, *, weight=1000)", "variants.read_preferences": "(text)",
    "variants.quality": "(preferences, word)", "variants.choose": "(variants, request)",
    "variants.ranking": "(variants, request)",
    "keys.varied_names": "(response)", "keys.key_of": "(names, request)",
    "directives.Directives.read": "(text)", "directives.Directives.of": "(message)",
    "ages.told_age": "(message)", "ages.current_age": "(initial, arrived, now)",
    "makes.Make": MAKE, "makes.Make.but": "(self, **settings)",
    "makes.Make.lifetime": "(self, directives, date, changed)", "makes.Make.keeps": "(self, wish, directives)",
    "makes.Make.allowance": "(self, wish, directives)", "makes.Make.error_allowance": "(self, wish, directives)",
    "makes.Make.initial_age": "(self, told, date, arrived)",
    "makes.Make.use": "(self, wish, directives, age, lifetime)",
    "makes.Make.error_use": "(self, wish, directives, age, lifetime)",
    "makes.StrictMake": MAKE, "makes.StrictMake.allowance": "(self, wish, directives)",
    "makes.StrictMake.error_allowance": "(self, wish, directives)",
    "makes.OwnMake": MAKE.replace("shared=True", "shared=False"),
    "kinds.Kind": "(lasts, *, shared_lasts=None, late=0, on_error=0, strict=False, check=False, own=False, "
                  "never=False, mark='strong', dated=False, margin=0)",
    "kinds.Kind.keep_field": "(self)", "kinds.serve_limit": "(make, kind, *, on_error=False)",
    "settings.Clock": "(behind=0, ahead=0)", "settings.Clock.reading": "(self, time, offset)",
    "settings.Setting": "(makes, kind, *, clocks=None, delays=None, loses=False)",
    "settings.Setting.part": "(self, first, last)",
    "cache.Cache": "(make)", "cache.Cache.ask": "(self, request, now)",
    "cache.Cache.answer": "(self, ticket, response, now)", "cache.Cache.drop": "(self, path)",
    "cache.Cache.stop": "(self)", "cache.Cache.listed": "(self, now)",
    "origin.Origin": "(kind)", "origin.Origin.place": "(self, path, variants, now, *, time=0)",
    "origin.Origin.change": "(self, path, text, now, *, alike=False, time=0)",
    "origin.Origin.erase": "(self, path, *, time=0)", "origin.Origin.answer": "(self, request, now, *, time=0)",
    "origin.Origin.lateness": "(self, path, text, time)",
    "row.Row": "(setting, pages)", "row.Row.play": "(self, event)", "row.Row.clock_offsets": "(self)",
    "row.Row.link_delays": "(self)",
    "desk.Desk": "(setting, pages)", "desk.Desk.do": "(self, event)", "desk.Desk.undo": "(self)",
    "desk.Desk.redo": "(self)", "desk.Desk.run": "(self, events)", "desk.Desk.history": "(self)",
    "desk.Desk.let": "(self, ticks)", "desk.Desk.line": "(self, text)", "desk.Desk.table": "(self)",
    "desk.Desk.told": "(self, *hops)", "enacting.enact": "(setting, story)",
    "machine.Machine": "(setting)", "machine.Machine.play": "(self, event)", "machine.Machine.run": "(self, story)",
    "machine.Machine.copy": "(self)",
    "worstage.sound": "(setting)", "worstage.worst_table": "(setting)", "worstage.worst": "(setting, *, age=None)",
    "worstage.loosest": "(setting, bound)", "worstage.worst_by_asks": "(setting)",
    "worstage.fewest_asks": "(setting, bound)",
    "verdicts.judge": "(setting, bound)", "verdicts.covers": "(setting, bound, table)",
    "verdicts.breaks": "(setting, bound, story)", "searching.search": "(setting, bound, ticks)",
    "plans.plan_asks": "(setting, needs, slots, bound, *, age=-1)",
    "plans.is_plan": "(setting, needs, slots, bound, answer, *, age=-1)",
    "calm.calm_start": "(setting)", "calm.calm_step": "(setting, state, event)",
    "calm.joined_state": "(first, second)", "comparing.compare": "(first, second, *, ages=True)",
    "comparing.is_alike": "(first, second, states, *, ages=True)",
    "comparing.parts": "(first, second, story, *, ages=True)",
    "traces.judge_trace": "(setting, trace)", "traces.is_trace_answer": "(setting, trace, answer)",
    "traces.seen": "(setting, story, hop)",
    "audit.Audit": "(setting, bound)", "audit.Audit.lines": "(self)", "audit.Audit.tightened": "(self, bound)",
}
PROPERTIES = ["messages.Message.may_have_body", "messages.Message.start", "reader.Reader.stage",
              "reader.Reader.fault", "reader.Reader.completed", "pipe.Pipe.waiting", "pipe.Pipe.fault",
              "conditions.Conditions.none", "conditions.Conditions.binding", "spans.Spans.size",
              "partial.Partial.whole", "settings.Clock.span", "settings.Setting.hops", "settings.Setting.calm",
              "cache.Cache.many", "cache.Cache.open_tickets", "origin.Origin.paths", "row.Row.time", "row.Row.log",
              "desk.Desk.row", "desk.Desk.let_late", "desk.Desk.first_late", "machine.Machine.time"]
OPERATORS = {"messages.Message": ["__eq__", "__str__"], "marks.Mark": ["__eq__", "__str__"],
             "marks.MarkList": ["__add__", "__len__"],
             "spans.Spans": ["__or__", "__and__", "__sub__", "__contains__", "__eq__", "__len__", "__bool__"],
             "makes.Make": ["__init__", "__eq__"], "makes.StrictMake": ["__init__"], "makes.OwnMake": ["__init__"],
             "cache.Cache": ["__contains__"], "audit.Audit": ["__bool__"]}
DECORATED = {"messages.Request.fetch": classmethod, "conditions.Conditions.of": classmethod,
             "marks.Mark.read": staticmethod, "marks.MarkList.read": staticmethod,
             "directives.Directives.read": staticmethod, "directives.Directives.of": classmethod}


def found(place):
    """The object of the interface with this name."""
    module, *names = place.split(".")
    thing = importlib.import_module("hopkeep." + module)
    for name in names:
        thing = getattr(thing, name)
    return thing


def is_setter(node):
    return any(getattr(one, "attr", "") == "setter" for one in node.decorator_list)


class InterfaceTest(unittest.TestCase):
    def test_signatures(self):
        for place, signature in FUNCTIONS.items():
            self.assertEqual(str(inspect.signature(found(place))), signature, place)

    def test_defined_in_their_files_and_classes(self):
        for place in [*FUNCTIONS, *PROPERTIES]:
            module, *names = place.split(".")
            body = ast.parse((PACKAGE / (module + ".py")).read_text()).body
            for name in names:
                inner = [node for node in body if getattr(node, "name", None) == name and not is_setter(node)]
                self.assertEqual(len(inner), 1, place)
                body = inner[0].body

    def test_only_what_can_be_assigned(self):
        for place in PROPERTIES:
            self.assertEqual(found(place).fset is not None, place == "desk.Desk.let_late", place)

    def test_kinds_of_methods(self):
        for place in PROPERTIES:
            self.assertIsInstance(found(place), property, place)
        for place, kind in DECORATED.items():
            owner, name = place.rsplit(".", 1)
            self.assertIsInstance(vars(found(owner))[name], kind, place)
        for place, names in OPERATORS.items():
            for name in names:
                self.assertIn(name, vars(found(place)), place)
