"""The tests of chosenlast: python3 -m unittest discover -s tests -t ."""
