"""Audits, which bring together what can be told of a row and a bound."""

from hopkeep.enacting import enact
from hopkeep.verdicts import judge
from hopkeep.worstage import fewest_asks, loosest, worst


class Audit:
    """The verdict on a setting and a bound, and what belongs to it."""

    def __init__(self, setting, bound):
        self.setting = setting
        self.bound = bound
        self.verdict = judge(setting, bound)
        self.worst = worst(setting)
        self.fewest = fewest_asks(setting, bound)
        self.loosest = loosest(setting, bound)
        self.tellings = [] if self.verdict[0] == "kept" else enact(setting, self.verdict[1])

    def lines(self):
        """The audit as four lines of text."""
        kind, proof = self.verdict
        if kind == "broken":
            asks = [event for event in proof if event[0] == "ask"]
            kind = f"broken by {len(asks)} asks"
        return [f"bound {self.bound}", f"worst {shown(self.worst)}", kind, f"age {shown(self.loosest)}"]

    def tightened(self, bound):
        """The audit of the same setting for another bound."""
        return Audit(self.setting, bound)

    def __bool__(self):
        return bool(self.verdict[0] == "kept")


def shown(value):
    """A result as it stands in a line."""
    return "none" if value is None else str(value)
