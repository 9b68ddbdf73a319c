"""Chosenlast: values that are chosen after they were used."""
