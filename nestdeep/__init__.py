"""Nestdeep: how deep a stack can ever be, function by function, for all sizes of frames."""
