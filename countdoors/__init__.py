"""Countdoors tells in which orders doors can be opened that open by counts of open doors."""
