"""Settings and stories that are drawn at random."""

from hopkeep.kinds import Kind
from hopkeep.makes import Make, OwnMake, StrictMake
from hopkeep.settings import Clock, Setting

MARKS = ("strong", "weak", "none")


def drawn_make(rng, graces=(0, 0, 2, None)):
    kind = rng.choice((Make, Make, StrictMake, OwnMake))
    return kind(grace=rng.choice(graces), error_grace=rng.choice((0, 3)), tells=rng.random() < 0.7,
                dates=rng.random() < 0.4, checks=rng.random() < 0.7, share=rng.choice((0, 50)), cap=3,
                durable=rng.random() < 0.3, room=rng.choice((1, 2, 8)))


def drawn_kind(rng, marks=MARKS):
    """A kind with a lifetime that all makes know."""
    return Kind(rng.choice((0, 1, 2, 4)), shared_lasts=rng.choice((None, None, 1, 3)), late=rng.choice((0, 0, 2)),
                on_error=rng.choice((0, 3)), strict=rng.random() < 0.1, check=rng.random() < 0.07,
                own=rng.random() < 0.1, never=rng.random() < 0.04, mark=rng.choice(marks),
                dated=rng.random() < 0.6, margin=rng.choice((0, 1, 4)))


def drawn_setting(rng, hops=(1, 2, 3), marks=MARKS, graces=(0, 0, 2, None), most_off=2, most_delay=2):
    """A setting with hops, marks, graces and bounds of these kinds."""
    many = rng.choice(hops)
    clocks = [Clock(rng.randrange(most_off + 1), rng.randrange(most_off + 1)) for _ in range(many + 1)]
    return Setting([drawn_make(rng, graces) for _ in range(many)], drawn_kind(rng, marks), clocks=clocks,
                   delays=[rng.randrange(most_delay + 1) for _ in range(many)], loses=rng.random() < 0.4)


def drawn_event(rng, setting):
    """An event of a story that the setting allows."""
    hop = rng.randrange(1, setting.hops + 1)
    name = rng.choice(["ask"] * 8 + ["wait"] * 4 + ["clock"] * 2 + ["delay", "change", "change", "behind", "behind",
                                                                   "stop", "lose", "alike"])
    if name == "clock":
        hop = rng.randrange(1, setting.hops + 2)
        clock = setting.clocks[hop - 1]
        return (name, hop, rng.randrange(-clock.behind, clock.ahead + 1))
    if name == "lose" and not setting.loses:
        name = "wait"
    if name == "alike" and setting.kind.mark != "weak":
        name = "change"
    rest = {"ask": (rng.choice((1, hop)), rng.choice((None, None, None, -1, 0, 1, 2, 5))),
            "wait": (rng.randrange(1, 4),), "delay": (hop, rng.randrange(setting.delays[hop - 1] + 1)),
            "stop": (hop,), "lose": (hop, rng.choice(("up", "back")))}
    return (name, *rest.get(name, ()))


def drawn_story(rng, setting, length):
    return [drawn_event(rng, setting) for _ in range(length)]


def drawn_calm_setting(rng, hops=(1, 2, 3), most=6):
    """A calm setting with sound marks, a limit for each hop, and limits that are at most `most`."""
    kind = Kind(rng.randrange(most + 1), shared_lasts=rng.choice((None, None, rng.randrange(most + 1))),
                own=rng.random() < 0.1, mark=rng.choice(("strong", "strong", "none")))
    makes = []
    for _ in range(rng.choice(hops)):
        make = rng.choice((Make, Make, StrictMake, OwnMake))(tells=rng.random() < 0.6, dates=rng.random() < 0.4,
                                                             checks=rng.random() < 0.6, durable=rng.random() < 0.3)
        makes.append(make.but(grace=rng.randrange(3)) if kind.lasts + 2 <= most else make)
    return Setting(makes, kind)
