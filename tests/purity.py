"""Checks that a function leaves its arguments as they are, and that what it returns shares nothing with anything."""


def frozen(value):
    """A picture of a value that later changes do not reach. Objects are pictured by their attributes."""
    if isinstance(value, (list, tuple)):
        return (type(value).__name__, tuple(frozen(item) for item in value))
    if isinstance(value, dict):
        return ("dict", tuple((frozen(key), frozen(item)) for key, item in value.items()))
    if hasattr(value, "__dict__"):
        return (type(value).__name__, frozen(vars(value)))
    return value


def holders(value):
    """All lists and dicts in a value, those of objects included."""
    found = []
    if isinstance(value, (list, dict)):
        found.append(value)
    if hasattr(value, "__dict__"):
        return found + holders(vars(value))[1:]
    if isinstance(value, dict):
        value = list(value.items())
    if isinstance(value, (list, tuple)):
        for item in value:
            found.extend(holders(item))
    return found


def check_pure(case, function, *given, shared=()):
    """Calls a function twice, and spoils the first result in between. Objects in `shared` may occur in the result."""
    before = frozen(given)
    first = function(*given)
    expected = frozen(first)
    case.assertEqual(frozen(given), before)
    allowed = {id(row) for row in holders(list(shared))}
    old = {id(row) for row in holders(given)} - allowed
    new = [row for row in holders(first) if id(row) not in allowed]
    case.assertFalse(old & {id(row) for row in new})
    for row in new:
        row.clear()
    case.assertEqual(frozen(given), before)
    case.assertEqual(frozen(function(*given)), expected)
    case.assertEqual(frozen(given), before)
