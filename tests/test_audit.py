"""[81]: audits."""

import random
import unittest

from hopkeep.audit import Audit
from hopkeep.enacting import enact
from hopkeep.errors import InvalidValue, NoLifetime
from hopkeep.kinds import Kind
from hopkeep.makes import Make
from hopkeep.settings import Setting
from hopkeep.verdicts import judge
from hopkeep.worstage import fewest_asks, loosest, worst
from tests.draws import drawn_setting
from tests.helpers import caught
from tests.test_machine import WITHOUT_LIFETIME


class AuditTest(unittest.TestCase):
    def test_kept(self):
        setting = Setting([Make()], Kind(5))
        audit = Audit(setting, 4)
        self.assertIs(audit.setting, setting)
        self.assertEqual((audit.bound, audit.verdict, audit.worst, audit.fewest, audit.loosest, audit.tellings),
                         (4, ("kept", [[0, 1, 2, 3, 4, 4]]), 4, None, "any", []))
        self.assertIs(bool(audit), True)
        self.assertEqual(audit.lines(), ["bound 4", "worst 4", "kept", "age any"])

    def test_broken(self):
        audit = Audit(Setting([Make()], Kind(5)), 2)
        self.assertEqual((audit.bound, audit.verdict[0], audit.worst, audit.fewest, audit.loosest),
                         (2, "broken", 4, 2, 2))
        self.assertEqual(audit.tellings, enact(audit.setting, audit.verdict[1]))
        self.assertEqual([late for late, _ in audit.tellings], [0, 3])
        self.assertIs(bool(audit), False)
        self.assertEqual(audit.lines(), ["bound 2", "worst 4", "broken by 2 asks", "age 2"])

    def test_each_form_of_a_line(self):
        for makes, kind, bound, lines in (
                ([Make(grace=None)], Kind(3), 0, ["bound 0", "worst none", "broken by 2 asks", "age 0"]),
                ([Make()], Kind(3, mark="weak"), 10 ** 6, ["bound 1000000", "worst none", "broken by 2 asks",
                                                           "age none"]),
                ([Make()] * 2, Kind(0), 1, ["bound 1", "worst 2", "broken by 1 asks", "age none"]),
                ([Make()] * 2, Kind(0), 2, ["bound 2", "worst 2", "kept", "age any"]),
                ([Make(tells=False)] * 2, Kind(4), 3, ["bound 3", "worst 8", "broken by 2 asks", "age -1"]),
                ([Make(tells=False)] * 2, Kind(4), 7, ["bound 7", "worst 8", "broken by 3 asks", "age 2"])):
            setting = Setting(makes, kind, delays=[1] * len(makes) if len(makes) > 1 else None)
            self.assertEqual(Audit(setting, bound).lines(), lines)

    def test_the_parts_belong_together(self):
        kinds = {}
        for seed in range(150):
            setting = drawn_setting(random.Random(seed))
            for bound in (0, 2, 6, 15):
                audit = Audit(setting, bound)
                kind, proof = judge(setting, bound)
                kinds[kind] = True
                self.assertEqual(audit.verdict, (kind, proof))
                self.assertEqual((audit.worst, audit.fewest, audit.loosest),
                                 (worst(setting), fewest_asks(setting, bound), loosest(setting, bound)))
                self.assertEqual(bool(audit), kind == "kept")
                self.assertEqual(audit.tellings, enact(setting, proof) if kind == "broken" else [])
                if kind == "broken":
                    self.assertEqual(audit.lines()[2], f"broken by {audit.fewest} asks")
                    self.assertGreater(audit.tellings[-1][0], bound)
        self.assertEqual(len(kinds), 2)

    def test_tightened(self):
        audit = Audit(Setting([Make()], Kind(5)), 4)
        other = audit.tightened(1)
        self.assertIsInstance(other, Audit)
        self.assertIs(other.setting, audit.setting)
        self.assertEqual(other.lines(), Audit(audit.setting, 1).lines())
        self.assertEqual((audit.bound, bool(audit), bool(other), bool(other.tightened(4))), (4, True, False, True))
        self.assertEqual(caught(InvalidValue, audit.tightened, -1).name, "bound")

    def test_lines_are_new(self):
        audit = Audit(Setting([Make()], Kind(5)), 4)
        audit.lines().clear()
        self.assertEqual(len(audit.lines()), 4)

    def test_errors(self):
        self.assertEqual(caught(InvalidValue, Audit, Setting([Make()], Kind(5)), -1).name, "bound")
        for setting in WITHOUT_LIFETIME:
            self.assertIsNotNone(caught(NoLifetime, Audit, setting, -1))
