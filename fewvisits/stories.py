"""Stories: what happened in a world, as a person reads it."""

from fewvisits.errors import BadValue
from fewvisits.worlds import World


def told_event(kinds, event):
    """The string of an event."""
    word, thing, deal = event[:3]
    if word == "ask":
        return f"deal {deal} asks thing {thing}: {kinds[thing].asks[event[3]]}"
    if word == "answer":
        return f"thing {thing} answers deal {deal}: {kinds[thing].answers[event[3]]}"
    if word == "ready":
        return f"thing {thing} is ready for deal {deal}"
    return f"{word} for deal {deal} at thing {thing}"


def story(world):
    """A string for each event of what happened, in order."""
    if not isinstance(world, World):
        raise BadValue("world")
    weave = world.weave()
    return tuple([told_event(weave.kinds, event) for event in weave.events])
