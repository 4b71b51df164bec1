"""Programs in which one thing is another one. Everything handed in is trusted to be what it should."""


def program_copied(program):
    names, many, start, steps = program
    return (list(names), many, list(start), list(steps))


def program_guarded(program, place, deed):
    """The program with a place more, from which a deed leads to what led to the place ahead."""
    names, many, start, steps = program
    led = [(source, many if target == place else target, told) for source, target, told in steps]
    return (list(names), many + 1, list(start), led + [(many, place, deed)])


def program_with_input(program, step, span):
    """The program in which an input has another range."""
    names, many, start, steps = program_copied(program)
    source, target, deed = steps[step]
    steps[step] = (source, target, (deed[0], deed[1], span))
    return (names, many, start, steps)


def program_with_start(program, name, span):
    """The program in which a name begins with another range."""
    names, many, start, steps = program_copied(program)
    start[names.index(name)] = span
    return (names, many, start, steps)
