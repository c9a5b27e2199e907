"""Questions about structures that are put together, answered part by part."""
