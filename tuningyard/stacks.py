"""Stacks of spans: the tones that they make, towers, and how stacks are written and read."""

from tuningyard.errors import NoSpan, NoStack, TooFar
from tuningyard.rows import times, tone_of
from tuningyard.spans import span_read, span_text

MOST_SPANS = 12
MOST_DEEP = 8
MARKS = "( )"


def tones_of(root, stack):
    """The tones that a stack makes upon a root: first its own, then those of the stacks upon it, from the left."""
    tone = tone_of(times(root, stack[0]))
    tones = [tone]
    for upper in stack[1]:
        tones = tones + tones_of(tone, upper)
    return tones


def tower(spans):
    """The stack of the first span, on which the tower of the others stands."""
    return (spans[0], [tower(spans[1:])] if len(spans) > 1 else [])


def stack_text(stack):
    """The stack written, as `1/1(5/4(6/5) 7/4)`."""
    span = span_text(stack[0])
    if stack[1] == []:
        return span
    uppers = " ".join([stack_text(upper) for upper in stack[1]])
    return f"{span}({uppers})"


def span_end(text, start):
    """The place behind the span that starts here: that of the next bracket or blank, or the text's end."""
    end = start
    while end < len(text) and text[end] not in MARKS:
        end = end + 1
    return end


def stack_span(text):
    """The span of a stack, as its text tells it."""
    try:
        return span_read(text)
    except (NoSpan, TooFar):
        raise NoStack("a stack holds a span that is none") from None


def uppers_from(text, start, deep):
    """The stacks that stand in brackets here, the first one so deep, and the place behind the closing bracket."""
    uppers = []
    end = start
    # Each stack stands behind the opening bracket or a blank, which the one ahead of it left as the next sign.
    while uppers == [] or text[end:end + 1] == " ":
        found = stack_from(text, end + 1, deep)
        uppers.append(found[0])
        end = found[1]
    if text[end:end + 1] != ")":
        raise NoStack("a bracket is not closed")
    return (uppers, end + 1)


def stack_from(text, start, deep):
    """The stack that starts here, so deep, and the place behind it."""
    if deep > MOST_DEEP:
        raise NoStack("a stack is at most 8 deep")
    end = span_end(text, start)
    span = stack_span(text[start:end])
    if text[end:end + 1] != "(":
        return ((span, []), end)
    found = uppers_from(text, end, deep + 1)
    return ((span, found[0]), found[1])


def stack_read(text):
    """The stack that a text stands for."""
    # Each span holds just one stroke.
    if text.count("/") > MOST_SPANS:
        raise NoStack("a stack has at most 12 spans")
    found = stack_from(text, 0, 1)
    if found[1] != len(text):
        raise NoStack("something stands behind the stack")
    return found[0]
