"""Printed tables of machines and books, as lists of lines (points 65 and 66)."""


def machine_lines(machine):
    """The first text, and a line for each place with its steps and its end."""
    heads = [f"  {sign:<10}" for sign in machine.alphabet.signs]
    lines = [f"first={machine.first}", "place" + "".join(heads) + "  end"]
    for place, (row, end) in enumerate(zip(machine.rows, machine.ends)):
        steps = [f"  {_step_text(step):<10}" for step in row]
        ending = "." if end is None else f"={end}"
        lines.append(f"{place:>5}" + "".join(steps) + f"  {ending}")
    return lines


def _step_text(step):
    return "." if step is None else f"{step[0]}/{step[1]}"


def account_lines(book):
    """For each class of the account its number, whether it fits, its entries, and its first rule."""
    texts = book.lot.texts()
    lines = []
    for (number, state, missed), rules in zip(book.account(), book.all_classes()):
        entries = ",".join([str(entry) for entry in missed]) if len(missed) > 0 else "none"
        lines.append(f"{number:>3}  {state:<4}  {entries:>12}  {texts[rules[0]]}")
    return lines
