"""Bytegrove: functions that run on packed trees with one cursor."""
