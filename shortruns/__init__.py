"""Shortcuts: runs of actions with repeats within repeats, as if done one by one."""
