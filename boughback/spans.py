"""Spans: how far the stands of a tree are from one another."""


def spans(parents, lengths):
    """For each stand the list of how far each stand is from it."""
    far = [[0]]
    for stand in range(1, len(parents)):
        # A parent has a lesser number, so how far it is from all lesser ones is known by now.
        ahead = [span + lengths[stand] for span in far[parents[stand]]]
        for other in range(stand):
            far[other].append(ahead[other])
        far.append(ahead + [0])
    return far
