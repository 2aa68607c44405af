"""Values that grow along links `(left, right, grown)`: from what the left one has, the right one has so much more."""


def lowered(values, links):
    """The values, each lowered to what a link adds to another one, as long as this is less."""
    changed = True
    while changed:
        changed = False
        for left, right, grown in links:
            if left in values and (right not in values or values[left] + grown < values[right]):
                values[right] = values[left] + grown
                changed = True
    return values


def raised(values, links):
    """Raises the values once to what the links add to others; tells those that were raised."""
    found = []
    for left, right, grown in links:
        if left in values and (right not in values or values[left] + grown > values[right]):
            values[right] = values[left] + grown
            found.append(right)
    return found
