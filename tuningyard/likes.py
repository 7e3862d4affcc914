"""Whether a scale is another one moved: by which span, or why by none."""

from tuningyard.rows import ONE, over
from tuningyard.sizes import folded


def reach(scale, tone):
    """The spans, folded, that lead from the tone to the tones of the scale, in its order."""
    return [folded(over(other, tone)) for other in scale]


def only_one_has(spans, others):
    """A span that stands in just one of two lists, or None where none does."""
    only = [span for span in spans if span not in others] + [span for span in others if span not in spans]
    return only[0] if only != [] else None


def move_between(one, other):
    """Of two scales ("move", span), or ("apart", spans) with a span for each tone of the other one."""
    if one == [] or other == []:
        return ("move", ONE) if one == other else ("apart", [])
    spans = reach(one, one[0])
    why = []
    for tone in other:
        found = only_one_has(spans, reach(other, tone))
        # From both tones the same spans lead on: so the scale laid there is the other one.
        if found is None:
            return ("move", folded(over(tone, one[0])))
        why.append(found)
    return ("apart", why)
