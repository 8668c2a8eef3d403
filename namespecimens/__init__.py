"""What a name hangs on: candidates chosen step by step, and groups of specimens."""
