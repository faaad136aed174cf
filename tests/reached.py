"""What is reached on all ways through a body, performed statement by statement; and bodies to try."""


def callback_key(callback):
    return (0, callback) if isinstance(callback, str) else (1, callback)


def in_callback_order(callbacks):
    return tuple(sorted(set(callbacks), key=callback_key))


def called(statement):
    return statement[1] if statement[0] == "do" else statement[1:]


def with_frames(line, count, frame):
    counts = dict(line)
    counts[frame] = counts.get(frame, 0) + count
    return tuple(sorted(counts.items()))


def behind(statement, state, found, rounds):
    """The states behind a statement; what is reached within it is put into found."""
    line, shut, returned = state
    word = statement[0]
    if word == "take":
        return {(with_frames(line, statement[1], statement[2]), shut, returned)}
    if word == "shut":
        return {(line, tuple(sorted({*shut, *statement[1]})), returned)}
    if word in ("do", "call"):
        found.add((line, shut, called(statement), returned))
        return {(line, shut, in_callback_order([*returned, called(statement)]))}
    if word == "room":
        return {(line, shut, end[2]) for end in performed(statement[1], {state}, found, rounds)}
    if word == "either":
        return performed(statement[1], {state}, found, rounds) | performed(statement[2], {state}, found, rounds)
    if word == "loop":
        ends, present = {state}, {state}
        for _ in range(rounds if statement[1] is None else min(rounds, statement[1])):
            present = performed(statement[2], present, found, rounds) - ends
            ends |= present
        return ends
    return set()


def performed(body, states, found, rounds):
    """The states at the end of a body that is performed from these states."""
    for statement in body:
        found.update((line, shut, "now", returned) for line, shut, returned in states)
        states = set().union(*(behind(statement, state, found, rounds) for state in states))
    found.update((line, shut, "now", returned) for line, shut, returned in states)
    return states


def reached(body, rounds=4):
    """All terms that are reached if a loop has at most so many rounds."""
    found = set()
    ends = performed(body, {((), (), ())}, found, rounds)
    return list(found | {(line, shut, "end", returned) for line, shut, returned in ends})


def some_body(random, depth=0, most=5, loops=(1, 2, 3, None), frames="ab", interrupts="uv", callbacks=("c", "d", ("g", ("c",)))):
    """Some body, with blocks at most so deep."""
    words = ["take", "take", "take", "shut", "call", "call", "room", "either", "loop", "stop"]
    body = []
    for _ in range(random.randint(0, most)):
        word = random.choice(words if depth < 2 else words[:6])
        if word == "stop" and random.random() < .5:
            word = "take"

        def block(many):
            return some_body(random, depth + 1, many, loops, frames, interrupts, callbacks)

        if word == "take":
            body.append(("take", random.randint(1, 4), random.choice(frames)))
        elif word == "shut":
            body.append(("shut", tuple(sorted(random.sample(interrupts, random.randint(1, len(interrupts)))))))
        elif word == "call":
            callback = random.choice(callbacks)
            body.append(("do", callback) if isinstance(callback, str) else ("call", *callback))
        elif word == "room":
            body.append(("room", block(3)))
        elif word == "either":
            body.append(("either", block(3), block(2)))
        elif word == "loop":
            body.append(("loop", random.choice(loops), block(2)))
        else:
            body.append(("stop",))
    return tuple(body)


def choices_in_turn(random, frames="ab", many=3):
    """A body with many ends, which differ in what is taken, what is shut and what has returned."""
    parts = [("take", count, frame) for frame in frames for count in (1, 2)] + [("shut", ("u",)), ("shut", ("v",)), ("do", "c"), ("do", "d")]
    parts.append(("loop", 2, (("take", 1, "a"), random.choice(parts))))
    parts.append(("room", (random.choice(parts), ("shut", ("v",)), random.choice(parts))))
    return tuple(("either", tuple(random.sample(parts, 2)), tuple(random.sample(parts, random.randint(1, 3)))) for _ in range(many))
