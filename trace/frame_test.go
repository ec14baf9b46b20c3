package trace_test

import (
	"encoding/binary"
	"fmt"
	"math/big"
	"strings"
	"testing"

	"couplant/api"
	"couplant/trace"
)

// checkOf returns the check of bytes, by definition.
func checkOf(b []byte) int {
	check := big.NewInt(1)
	for _, x := range b {
		check.Mul(check, big.NewInt(257)).Add(check, big.NewInt(int64(x)+1))
	}
	return int(check.Mod(check, big.NewInt(65521)).Int64())
}

// summed returns bytes with their check behind them.
func summed(b []byte) string {
	return string(binary.BigEndian.AppendUint16(b, uint16(checkOf(b))))
}

// bytesOf returns the bytes of a frame, by definition, also of one that is not
// right.
func bytesOf(elements byte, position int32, samples ...int16) string {
	b := []byte{'C', 'P', 1, elements}
	b = binary.BigEndian.AppendUint32(b, uint32(position))
	for _, x := range samples {
		b = binary.BigEndian.AppendUint16(b, uint16(x))
	}
	return summed(b)
}

// small returns a frame of one element that begins with some samples.
func small(position int, samples ...float32) api.TraceFrame {
	m := zeros(1)
	copy(m.Buffer, samples)
	return api.TraceFrame{Position: position, Matrix: m}
}

func (n *numbers) frame() api.TraceFrame {
	return api.TraceFrame{
		Position: n.from(-api.MaxPart, api.MaxPart),
		Matrix:   n.matrix(n.from(1, 4), 2047),
	}
}

// P3.7

func TestFormatFrame(t *testing.T) {
	nothing := "CP\x01\x01\x00\x00\x00\x00" + strings.Repeat("\x00", 128)
	s, e := trace.FormatFrame(small(0))
	expect(t, "FormatFrame of nothing", s, e, summed([]byte(nothing)), api.OK)
	s, e = trace.FormatFrame(small(-2))
	expectAlike(t, "FormatFrame of -2", s[4:8], "\xff\xff\xff\xfe")
	s, e = trace.FormatFrame(small(-2, -1, 300, minusZero(), 2047, -2047))
	expect(t, "FormatFrame", s[:18], e, "CP\x01\x01\xff\xff\xff\xfe\xff\xff\x01\x2c\x00\x00\x07\xff\xf8\x01", api.OK)
	for _, position := range []int{1000000000, -1000000000, 0x01020304, -1} {
		s, e = trace.FormatFrame(small(position))
		expect(t, "FormatFrame of a position", s, e, bytesOf(1, int32(position), make([]int16, 64)...), api.OK)
	}
	s, e = trace.FormatFrame(api.TraceFrame{Matrix: zeros(16)})
	expect(t, "FormatFrame of 16 elements", s, e, bytesOf(16, 0, make([]int16, 16*16*64)...), api.OK)
}

func TestFormatFrameIsAsDefined(t *testing.T) {
	var n numbers = 13
	for range 30 {
		f := n.frame()
		var samples []int16
		for _, x := range f.Matrix.Buffer {
			samples = append(samples, int16(x))
		}
		s, e := trace.FormatFrame(f)
		expect(t, "FormatFrame", s, e, bytesOf(byte(f.Matrix.Elements), int32(f.Position), samples...), api.OK)
	}
}

func TestFormatFrameRefuses(t *testing.T) {
	for _, position := range []int{1000000001, -1000000001, huge, -huge - 1, 1 << 32} {
		s, e := trace.FormatFrame(small(position, 0.5))
		expect(t, "FormatFrame of a wrong position", s, e, "", api.ErrRange)
		s, e = trace.FormatFrame(small(position))
		expect(t, "FormatFrame of a wrong position", s, e, "", api.ErrRange)
	}
	refuses(t, "FormatFrame", func(m api.FullMatrix) api.Errno {
		s, e := trace.FormatFrame(api.TraceFrame{Position: 5, Matrix: m})
		expect(t, "FormatFrame", s, e, "", e)
		return e
	})
}

func TestParseFrame(t *testing.T) {
	for _, f := range []api.TraceFrame{
		small(0), small(-2, -1, 300), small(1000000000, 2047), small(-1000000000, -2047),
		{Position: 7, Matrix: two()}, {Position: 7, Matrix: with(16, [2]int{15, 15}, 63, -9)},
	} {
		samples := make([]int16, len(f.Matrix.Buffer))
		for k, x := range f.Matrix.Buffer {
			samples[k] = int16(x)
		}
		g, e := trace.ParseFrame(bytesOf(byte(f.Matrix.Elements), int32(f.Position), samples...))
		expect(t, "ParseFrame", g, e, f, api.OK)
	}
}

// changed returns bytes with another one at a place.
func changed(s string, at int, b byte) string {
	return s[:at] + string([]byte{b}) + s[at+1:]
}

func TestParseFrameRefuses(t *testing.T) {
	s := must(trace.FormatFrame(small(-2, -1, 300)))
	end := len(s)
	for _, x := range []struct {
		s    string
		want api.Errno
	}{
		{"", api.ErrSyntax},
		{"CP", api.ErrSyntax},
		{s[:7], api.ErrSyntax},
		{"CP\x02\x00\x00\x00\x00", api.ErrSyntax},
		{changed(s, 0, 'X'), api.ErrSyntax},
		{changed(s, 1, 'p'), api.ErrSyntax},
		{"PC" + s[2:], api.ErrSyntax},
		{"XX\x02\x00\x00\x00\x00\x00", api.ErrSyntax},
		{changed(s, 2, 2), api.ErrKind},
		{changed(s, 2, 0), api.ErrKind},
		{changed(s, 2, 128), api.ErrKind},
		{changed(s, 2, 255), api.ErrKind},
		{"CP\x02\x00\x00\x00\x00\x00", api.ErrKind},
		{changed(s, 3, 0), api.ErrRange},
		{changed(s, 3, 17), api.ErrRange},
		{changed(s, 3, 255), api.ErrRange},
		{"CP\x01\x00\x00\x00\x00\x00", api.ErrRange},
		{changed(s, 3, 2), api.ErrShape},
		{"CP\x01\x01\x00\x00\x00\x00", api.ErrShape},
		{s + "x", api.ErrShape},
		{s[:end-1], api.ErrShape},
		{s + s, api.ErrShape},
		{changed(s, end-1, s[end-1]^1), api.ErrSum},
		{changed(s, end-2, s[end-2]^1), api.ErrSum},
		{changed(s, 4, 0x40), api.ErrSum},
		{changed(s, 8, 0x40), api.ErrSum},
		{changed(s, end-3, 1), api.ErrSum},
		{bytesOf(1, 1000000001, make([]int16, 64)...), api.ErrRange},
		{bytesOf(1, -1000000001, make([]int16, 64)...), api.ErrRange},
		{bytesOf(1, -1<<31, make([]int16, 64)...), api.ErrRange},
		{bytesOf(1, 0, append(make([]int16, 63), 2048)...), api.ErrRange},
		{bytesOf(1, 0, append(make([]int16, 63), -2048)...), api.ErrRange},
		{bytesOf(1, 0, append(make([]int16, 63), -1<<15)...), api.ErrRange},
		{bytesOf(0, 0), api.ErrRange},
		{bytesOf(17, 0, make([]int16, 17*17*64)...), api.ErrRange},
	} {
		f, e := trace.ParseFrame(x.s)
		expect(t, fmt.Sprintf("ParseFrame of %.12q", x.s), f, e, api.TraceFrame{}, x.want)
	}
}

// The check is a number below FramePrime: the same one told by so many more is
// another one.
func TestParseFrameRefusesLargeChecks(t *testing.T) {
	var n numbers = 14
	for range 100000 {
		s := bytesOf(1, int32(n.from(0, 1000000)), make([]int16, 64)...)
		if sum := int(s[136])<<8 + int(s[137]); sum < 1<<16-65521 {
			large := string(binary.BigEndian.AppendUint16([]byte(s[:136]), uint16(sum+65521)))
			f, e := trace.ParseFrame(large)
			expect(t, "ParseFrame with a large check", f, e, api.TraceFrame{}, api.ErrSum)
			return
		}
	}
	t.Error("no frame has a small check")
}

func TestFrames(t *testing.T) {
	first, second := small(-2, -1, 300), api.TraceFrame{Position: 5, Matrix: two()}
	s, r := must(trace.FormatFrame(first)), must(trace.FormatFrame(second))
	wrong := bytesOf(1, 0, append(make([]int16, 63), 2048)...)
	for _, x := range []struct {
		s    string
		want []api.TraceFrame
		n    int
	}{
		{"", nil, 0},
		{"CP", nil, 0},
		{s, []api.TraceFrame{first}, 138},
		{s[:137], nil, 0},
		{s + s[:100], []api.TraceFrame{first}, 138},
		{s + "C", []api.TraceFrame{first}, 138},
		{s + s[:8], []api.TraceFrame{first}, 138},
		{s + r, []api.TraceFrame{first, second}, 660},
		{r + s + r, []api.TraceFrame{second, first, second}, 1182},
		{r + s + r[:521], []api.TraceFrame{second, first}, 660},
		{"x" + s, nil, 0},
		{s + "x" + s, []api.TraceFrame{first}, 138},
		{s + changed(r, 100, 1) + s, []api.TraceFrame{first}, 138},
		{s + changed(r, 3, 0) + s, []api.TraceFrame{first}, 138},
		{s + changed(r, 3, 255) + s, []api.TraceFrame{first}, 138},
		{s + changed(r, 2, 2) + s, []api.TraceFrame{first}, 138},
		{s + wrong + s, []api.TraceFrame{first}, 138},
	} {
		l, n, e := trace.Frames(x.s)
		expect(t, "Frames", l, e, x.want, api.OK)
		expectAlike(t, "the bytes of frames", n, x.n)
	}
}

func TestFramesHaveALimit(t *testing.T) {
	s := must(trace.FormatFrame(small(3)))
	full := strings.Repeat(s, 100000/138)
	full += strings.Repeat("C", 100000-len(full))
	l, n, e := trace.Frames(full)
	expect(t, "Frames of 100000 bytes", len(l), e, 724, api.OK)
	expectAlike(t, "the bytes of frames", n, 724*138)
	for _, s := range []string{full + "C", strings.Repeat("x", 100001), strings.Repeat(s, 725)} {
		l, n, e = trace.Frames(s)
		expect(t, "Frames of more", l, e, nil, api.ErrLarge)
		expectAlike(t, "the bytes of frames", n, 0)
	}
}

// R3

func TestFramesShareNoMemory(t *testing.T) {
	s := must(trace.FormatFrame(small(3, 1, 2)))
	l, _, _ := trace.Frames(s + s)
	l[0].Matrix.Buffer[0] = 99
	_ = append(l[0].Matrix.Buffer, 99)
	expectAlike(t, "the second frame", l[1], small(3, 1, 2))
	f := small(3, 1, 2)
	must(trace.FormatFrame(f))
	expectAlike(t, "the argument", f, small(3, 1, 2))
}
