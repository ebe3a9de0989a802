"""Runs examples that are written as in the document."""


def run_example(example):
    """The result of the last expression of an example, as written, and the written result that it should have.

    An error is written as in the document: raises InvalidNumber(value=0).
    """
    rows = [row.strip() for row in example.strip().split("\n")]
    code = [row[4:] for row in rows if row.startswith(">>> ")]
    wanted = "\n".join([row for row in rows if not row.startswith(">>> ")])
    names = {}
    exec("\n".join(code[:-1]), names)
    try:
        found = repr(eval(code[-1], names))
    except Exception as error:
        fields = ", ".join([f"{name}={value!r}" for name, value in vars(error).items()])
        found = f"raises {type(error).__name__}({fields})"
    return found, wanted
