"""The parts of a web: places that ties join."""


def part_names(web):
    """Return for each place the least place of its part."""
    names = list(range(web.places))
    for one, two, _ in web.ties:
        least = min(names[one], names[two])
        greatest = max(names[one], names[two])
        names = [least if name == greatest else name for name in names]
    return names


def parts(web):
    """Return the parts, in ascending order of their least places, each a tuple of its places."""
    names = part_names(web)
    return tuple([tuple([place for place in range(web.places) if names[place] == least])
                  for least in range(web.places) if names[least] == least])
