"""Runs examples that are written as in the document."""


def same(one, other):
    """Whether two values are equal and of the same kinds throughout."""
    if type(one) is not type(other):
        return False
    if isinstance(one, (list, tuple)):
        return len(one) == len(other) and all(map(same, one, other))
    return one == other


def run_examples(test, text, names):
    """Runs `>>>` lines in order; the line behind one tells its value, or what it raises."""
    lines = text.strip().split("\n")
    for at, line in enumerate(lines):
        if not line.startswith(">>> "):
            continue
        code = line[4:]
        told = lines[at + 1] if at + 1 < len(lines) else ">>> "
        with test.subTest(code):
            if told.startswith(">>> "):
                exec(code, names)
            elif told.startswith("raises "):
                check_raise(test, code, told[7:], names)
            else:
                value = eval(code, names)
                test.assertTrue(same(value, eval(told, names)), value)


def check_raise(test, code, told, names):
    exec("from curveboxes.errors import *", names)
    wanted = eval(told, names)
    with test.assertRaises(type(wanted)) as caught:
        # Not `eval`: an assignment can raise, too.
        exec(code, names)
    test.assertIs(type(caught.exception), type(wanted))
    test.assertTrue(same(list(vars(caught.exception).items()), list(vars(wanted).items())), vars(caught.exception))
