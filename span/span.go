// Package span: what is asked of spans, whatever they are spans of.
package span

import "trellis/api"

// Is tells whether x is a span of n things.
func Is(x api.Span, n int) bool {
	return 0 <= x.From && x.From <= x.To && x.To <= n
}

// Len tells how many numbers a span has.
func Len(x api.Span) int { return x.To - x.From }

// Only is the span of one number. Where that number is the greatest that there
// is, the end wraps round, and it is a span of nothing: what callers need.
func Only(i int) api.Span { return api.Span{From: i, To: i + 1} }

// Ends asks one question at both ends of a span.
func Ends(x api.Span, ask func(int) int) api.Span {
	return api.Span{From: ask(x.From), To: ask(x.To)}
}
