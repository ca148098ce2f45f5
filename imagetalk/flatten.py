"""Plans to bodies of codes."""

from imagetalk.plans import NIL, POP


def flat_body(plan):
    """The body that does what a plan tells."""
    parameters, variables, steps, blocks = plan
    codes = []
    put_codes(steps, codes)
    return (parameters, variables, tuple(codes), tuple([flat_body(block) for block in blocks]))


def put_codes(steps, codes):
    """Puts the codes of steps, which stand the last one first, behind these."""
    for step in reversed(steps):
        if step[0] == "choose":
            put_choice(step, codes)
        elif step[0] == "loop":
            put_loop(step, codes)
        else:
            codes.append(step)


def put_choice(step, codes):
    """Codes of which one part or the other one is gone through."""
    _, wanted, chosen, other = step
    test = held_place(codes)
    put_codes(chosen, codes)
    jump = held_place(codes)
    below = len(codes)
    put_codes(other, codes)
    codes[test] = ("test", wanted, below, len(codes))
    codes[jump] = ("jump", len(codes))


def put_loop(step, codes):
    """Codes that go round."""
    _, judged, wanted, gone = step
    begin = len(codes)
    put_codes(judged, codes)
    test = held_place(codes)
    put_codes(gone, codes)
    codes.append(POP)
    codes.append(("jump", begin))
    below = len(codes)
    codes.append(NIL)
    codes[test] = ("test", wanted, below, len(codes))


def held_place(codes):
    """The place of a code whose targets are not known yet."""
    codes.append(())
    return len(codes) - 1
