"""Questions about wholes, answered by readers over a stock of parts."""
