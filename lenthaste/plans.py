"""What a number, a step and a plan are, and which tools steps leave held."""

MOST_STEPS = 40
MOST_WORK = 100
MOST_TOOL = 9


def is_number(thing, least, most):
    """Whether thing is a whole number from least to most."""
    # Python takes True and False for integers; here they are no numbers.
    if not isinstance(thing, int) or isinstance(thing, bool):
        return False
    return least <= thing <= most


def is_step(thing):
    """Whether thing is a step, whatever it is."""
    if not isinstance(thing, tuple) or len(thing) != 2:
        return False
    word, number = thing
    if word == "work":
        return is_number(number, 1, MOST_WORK)
    if word == "hold" or word == "free":
        return is_number(number, 0, MOST_TOOL)
    return False


def held_after(steps):
    """The tools that the steps, begun with no tool, hold and don't free."""
    tools = []
    for word, number in steps:
        if word == "hold":
            tools.append(number)
        elif word == "free":
            tools.remove(number)
    return tools


def holds_rightly(steps):
    """Whether holds rise, frees are of what is held, and nothing is kept."""
    for at, (word, number) in enumerate(steps):
        tools = held_after(steps[:at])
        if word == "hold" and tools and number <= max(tools):
            return False
        if word == "free" and number not in tools:
            return False
    return not held_after(steps)


def is_plan(thing):
    """Whether thing is a plan, whatever it is."""
    if not isinstance(thing, list) or not 1 <= len(thing) <= MOST_STEPS:
        return False
    return all([is_step(step) for step in thing]) and holds_rightly(thing)
