"""The texts of designs: their lines, and what lines tell (the section of onemember/designs.py in the document)."""

from onemember.forms import form_text, read_counted


def design_lines(fields, modes, calls, views):
    """The list of the lines of a design."""
    lines = ["fields " + " ".join(fields), "modes " + " ".join(modes)]
    for name, sort, cases in calls:
        lines.append(f"call {name} {sort}")
        for case in cases:
            lines.extend(case_lines(case))
    for name, forms in views:
        lines.append(f"view {name}")
        lines.extend([f"show {form_text(form)}" for form in forms])
    return lines


def case_lines(case):
    """The list of the lines of a case."""
    mode, facts, updates, after = case
    shown_facts = [f"fact {form_text(left)} <= {form_text(right)}" for left, right in facts]
    shown_updates = [f"set {field} = {form_text(form)}" for field, form in updates]
    return [f"case {mode} {after}"] + shown_facts + shown_updates


def read_parts(text):
    """The fields, modes, calls and views that a text tells, valid or not, or None where it tells none."""
    if not isinstance(text, str):
        return None
    lines = text.split("\n")
    heads = [line.split(" ") for line in lines[:2]]
    if [head[0] for head in heads] != ["fields", "modes"]:
        return None
    calls, views = [], []
    for line in lines[2:]:
        word, _, rest = line.partition(" ")
        if not take_call_line(calls, word, rest) and not take_view_line(views, word, rest):
            return None
    return (
        tuple(heads[0][1:]),
        tuple(heads[1][1:]),
        tuple([(name, sort, as_cases(cases)) for name, sort, cases in calls]),
        tuple([(name, tuple(forms)) for name, forms in views]),
    )


def as_cases(cases):
    """The cases of a call as tuples."""
    return tuple([(mode, tuple(facts), tuple(updates), after) for mode, facts, updates, after in cases])


def take_call_line(calls, word, rest):
    """Put a line of a call, of a case or of what stands in a case into the calls; whether it is one."""
    words = rest.split(" ")
    cases = calls[-1][2] if calls else []
    if word == "call" and len(words) == 2:
        return put(calls, (words[0], words[1], []))
    if word == "case" and len(words) == 2 and calls:
        return put(cases, (words[0], [], [], words[1]))
    if word == "fact" and cases:
        return put(cases[-1][1], read_fact(rest))
    if word == "set" and cases:
        return put(cases[-1][2], read_update(rest))
    return False


def take_view_line(views, word, rest):
    """Put a line of a view, or of a form that it shows, into the views; whether it is one."""
    if word == "view":
        return put(views, (rest, []))
    if word == "show" and views:
        return put(views[-1][1], read_form(rest))
    return False


def put(rows, row):
    """Put a row behind the others, if it was read; whether it was."""
    if row is None:
        return False
    rows.append(row)
    return True


def read_fact(text):
    """The pair of forms with this text of a fact, or None."""
    left_text, _, right_text = text.partition(" <= ")
    left, right = read_form(left_text), read_form(right_text)
    return None if left is None or right is None else (left, right)


def read_update(text):
    """The pair (field, form) with this text, whatever stands in the place of the field, or None."""
    field, _, form_part = text.partition(" = ")
    form = read_form(form_part)
    return None if form is None else (field, form)


def read_form(text):
    """The form with this text, however large, or None."""
    counted = read_counted(text)
    return None if counted is None else counted[0]
