"""Seamfast: captions that hold whatever version of a picture is shown."""
