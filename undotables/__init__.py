"""Undotables: what programs of do, undo and redo leave of a history."""
