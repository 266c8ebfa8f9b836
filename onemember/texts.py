"""The texts of designs: their lines, and what lines tell (the section of onemember/designs.py in the document)."""

from onemember.forms import form_text, read_counted


def design_lines(fields, modes, calls, views):
    """The list of the lines of a design."""
    lines = ["fields " + " ".join(fields), "modes " + " ".join(modes)]
    for name, sort, cases in calls:
        lines.append(f"call {name} {sort}")
        for case in cases:
            lines.extend(case_lines(case))
    for name, forms in views:
        lines.append(f"view {name}")
        lines.extend([f"show {form_text(form)}" for form in forms])
    return lines


def case_lines(case):
    """The list of the lines of a case."""
    mode, facts, updates, after = case
    shown_facts = [f"fact {form_text(left)} <= {form_text(right)}" for left, right in facts]
    shown_updates = [f"set {field} = {form_text(form)}" for field, form in updates]
    return [f"case {mode} {after}"] + shown_facts + shown_updates


def read_parts(text):
    """The fields, modes, calls and views that a text tells, valid or not, or None where it tells none."""
    if not isinstance(text, str):
        return None
    lines = text.split("\n")
    heads = [line.split(" ") for line in lines[:2]]
    if [head[0] for head in heads] != ["fields", "modes"]:
        return None
    calls, views = [], []
    for line in lines[2:]:
        word, _, rest = line.partition(" ")
        if not take_call_line(calls, word, rest) and not take_view_line(views, word, rest):
            return None
    return (
        tuple(heads[0][1:]),
        tuple(heads[1][1:]),
        tuple([(name, sort, as_cases(cases)) for name, sort, cases in calls]),
        tuple([(name, tuple(forms)) for name, forms in views]),
    )


def as_cases(cases):
    """The cases of a call as tuples."""
    return tuple([(mode, tuple(facts), tuple(updates), after) for mode, facts, updates, after in cases])


def take_call_line(calls, word, rest):
    """Put a line of a call, of a case or of what stands in a case into the calls; whether it can stand there."""
    words = rest.split(" ")
    cases = calls[-1][2] if calls else []
    if word == "call" and len(words) == 2:
        calls.append((words[0], words[1], []))
    elif word == "case" and len(words) == 2 and calls:
        cases.append((words[0], [], [], words[1]))
    elif word == "fact" and cases:
        left, _, right = rest.partition(" <= ")
        cases[-1][1].append((read_form(left), read_form(right)))
    elif word == "set" and cases:
        field, _, form = rest.partition(" = ")
        cases[-1][2].append((field, read_form(form)))
    else:
        return False
    return True


def take_view_line(views, word, rest):
    """Put a line of a view, or of a form that it shows, into the views; whether it can stand there."""
    if word == "view":
        views.append((rest, []))
    elif word == "show" and views:
        views[-1][1].append(read_form(rest))
    else:
        return False
    return True


def read_form(text):
    """The form with this text, however large, or None, which no design takes for a form."""
    counted = read_counted(text)
    return None if counted is None else counted[0]
