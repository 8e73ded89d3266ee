"""Toolroad: a mill's rows read, its tool led beside the work, its gears, and work taken up again."""
