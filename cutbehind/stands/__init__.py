"""Stands of cutters that have read a text that may go on."""
