package tensor

import (
	"testing"

	"anneal/api"
	"anneal/conv"
)

// castRow is a number of a format, and the nearest number of each one.
type castRow struct {
	w                         layout
	a                         uint32
	asHalf, asBrain, asSingle uint32
}

// in is the row's number in format f.
func (x castRow) in(f int) uint32 {
	return [...]uint32{api.Half: x.asHalf, api.Brain: x.asBrain, api.Single: x.asSingle}[f]
}

// castRows are rows that are written out: ordinary numbers, those halfway between two
// with either sign, noughts, infinities, NaNs of either kind, the ends of formats.
func castRows() []castRow {
	return []castRow{
		{half, 0x0000, 0x0000, 0x0000, 0x00000000},
		{half, 0x8000, 0x8000, 0x8000, 0x80000000},
		{half, 0x3c00, 0x3c00, 0x3f80, 0x3f800000},
		{half, 0xc100, 0xc100, 0xc020, 0xc0200000},
		{half, 0x3c01, 0x3c01, 0x3f80, 0x3f802000},
		{half, 0xbc03, 0xbc03, 0xbf80, 0xbf806000},
		{half, 0x3c04, 0x3c04, 0x3f80, 0x3f808000}, // halfway in Brain
		{half, 0x3c0c, 0x3c0c, 0x3f82, 0x3f818000},
		{half, 0xbc0c, 0xbc0c, 0xbf82, 0xbf818000},
		{half, 0x3555, 0x3555, 0x3eab, 0x3eaaa000},
		{half, 0x7bff, 0x7bff, 0x4780, 0x477fe000},
		{half, 0xfbff, 0xfbff, 0xc780, 0xc77fe000},
		{half, 0x0400, 0x0400, 0x3880, 0x38800000},
		{half, 0x83ff, 0x83ff, 0xb880, 0xb87fc000},
		{half, 0x0001, 0x0001, 0x3380, 0x33800000},
		{half, 0x0203, 0x0203, 0x3801, 0x3800c000},
		{half, 0x7c00, 0x7c00, 0x7f80, 0x7f800000},
		{half, 0xfc00, 0xfc00, 0xff80, 0xff800000},
		{half, 0x7e00, 0x7e00, 0x7fc0, 0x7fc00000},
		{half, 0xfe01, 0x7e00, 0x7fc0, 0x7fc00000},
		{half, 0x7c01, 0x7e00, 0x7fc0, 0x7fc00000},
		{half, 0xffff, 0x7e00, 0x7fc0, 0x7fc00000},
		{brain, 0x0000, 0x0000, 0x0000, 0x00000000},
		{brain, 0x8000, 0x8000, 0x8000, 0x80000000},
		{brain, 0x3f80, 0x3c00, 0x3f80, 0x3f800000},
		{brain, 0xc020, 0xc100, 0xc020, 0xc0200000},
		{brain, 0xbfff, 0xbff8, 0xbfff, 0xbfff0000},
		{brain, 0x477f, 0x7bf8, 0x477f, 0x477f0000},
		{brain, 0x4780, 0x7c00, 0x4780, 0x47800000},
		{brain, 0xff7f, 0xfc00, 0xff7f, 0xff7f0000},
		{brain, 0x387f, 0x03fc, 0x387f, 0x387f0000},
		{brain, 0x3300, 0x0000, 0x3300, 0x33000000}, // halfway to a Half's least number
		{brain, 0xb300, 0x8000, 0xb300, 0xb3000000},
		{brain, 0x3301, 0x0001, 0x3301, 0x33010000},
		{brain, 0x33c0, 0x0002, 0x33c0, 0x33c00000},
		{brain, 0x8001, 0x8000, 0x8001, 0x80010000},
		{brain, 0x007f, 0x0000, 0x007f, 0x007f0000},
		{brain, 0x7f80, 0x7c00, 0x7f80, 0x7f800000},
		{brain, 0xff80, 0xfc00, 0xff80, 0xff800000},
		{brain, 0xffc1, 0x7e00, 0x7fc0, 0x7fc00000},
		{brain, 0x7f81, 0x7e00, 0x7fc0, 0x7fc00000},
		{single, 0x00000000, 0x0000, 0x0000, 0x00000000},
		{single, 0x80000000, 0x8000, 0x8000, 0x80000000},
		{single, 0xc0200000, 0xc100, 0xc020, 0xc0200000},
		{single, 0x3f801000, 0x3c00, 0x3f80, 0x3f801000}, // halfway in Half
		{single, 0xbf801000, 0xbc00, 0xbf80, 0xbf801000},
		{single, 0x3f803000, 0x3c02, 0x3f80, 0x3f803000},
		{single, 0xbf803000, 0xbc02, 0xbf80, 0xbf803000},
		{single, 0x3f801001, 0x3c01, 0x3f80, 0x3f801001},
		{single, 0x3f800fff, 0x3c00, 0x3f80, 0x3f800fff},
		{single, 0x3f808000, 0x3c04, 0x3f80, 0x3f808000},
		{single, 0xbf818000, 0xbc0c, 0xbf82, 0xbf818000},
		{single, 0x477fefff, 0x7bff, 0x4780, 0x477fefff},
		{single, 0x477ff000, 0x7c00, 0x4780, 0x477ff000},
		{single, 0xc77ff000, 0xfc00, 0xc780, 0xc77ff000},
		{single, 0x7f7f7fff, 0x7c00, 0x7f7f, 0x7f7f7fff},
		{single, 0x7f7f8000, 0x7c00, 0x7f80, 0x7f7f8000},
		{single, 0x33000000, 0x0000, 0x3300, 0x33000000},
		{single, 0xb3000001, 0x8001, 0xb300, 0xb3000001},
		{single, 0x00018000, 0x0000, 0x0002, 0x00018000},
		{single, 0x807fffff, 0x8000, 0x8080, 0x807fffff},
		{single, 0x00000001, 0x0000, 0x0000, 0x00000001},
		{single, 0xff800000, 0xfc00, 0xff80, 0xff800000},
		{single, 0xffc12345, 0x7e00, 0x7fc0, 0x7fc00000},
		{single, 0x7f800001, 0x7e00, 0x7fc0, 0x7fc00000},
		{single, 0xffffffff, 0x7e00, 0x7fc0, 0x7fc00000},
	}
}

// P13.2: rows that are written out, each number alone, and all of a format in one tensor, as a row and as a column.
func TestCastRows(t *testing.T) {
	for _, from := range layouts() {
		for _, to := range layouts() {
			var l, want []uint32
			for _, x := range castRows() {
				if x.w.f != from.f {
					continue
				}
				l, want = append(l, x.a), append(want, x.in(to.f))
				y, e := Cast(of(1, 1, from.f, x.a), to.f)
				holdTensor(t, "P13.2: Cast of "+from.name+" to "+to.name, y, e, of(1, 1, to.f, x.in(to.f)), api.OK)
			}
			y, e := Cast(of(1, len(l), from.f, l...), to.f)
			holdTensor(t, "P13.2: Cast of a row of "+from.name+" to "+to.name, y, e, of(1, len(l), to.f, want...), api.OK)
			y, e = Cast(of(len(l), 1, from.f, l...), to.f)
			holdTensor(t, "P13.2: Cast of a column of "+from.name+" to "+to.name, y, e, of(len(l), 1, to.f, want...), api.OK)
		}
	}
}

// P13.2: each number of 16 bits, and Singles at as many places, as conv.To has them, NearEven.
func TestCastIsTo(t *testing.T) {
	for _, from := range layouts() {
		x := of(256, 256, from.f)
		for v := range uint32(1 << 16) {
			x.V = append(x.V, v<<(from.bits-16)|v*0x9e3779b1>>16&(1<<(from.bits-16)-1))
		}
		for _, to := range layouts() {
			want := of(256, 256, to.f)
			for _, v := range x.V {
				near, _ := conv.To(from.f, to.f, api.NearEven, v)
				want.V = append(want.V, near)
			}
			y, e := Cast(x, to.f)
			holdTensor(t, "P13.2: Cast of "+from.name+" to "+to.name, y, e, want, api.OK)
		}
	}
}

// P13.2: what has no numbers keeps its shape in the other format.
func TestCastOfNothing(t *testing.T) {
	for _, from := range layouts() {
		for _, to := range layouts() {
			for _, s := range []shape{{0, 0}, {0, 7}, {7, 0}, {0, 4096}, {4096, 0}} {
				y, e := Cast(of(s.rows, s.cols, from.f), to.f)
				holdTensor(t, "P13.2: Cast of nothing", y, e, of(s.rows, s.cols, to.f), api.OK)
				y, e = Chance(of(s.rows, s.cols, from.f, []uint32{}...), to.f, 3, 4)
				holdTensor(t, "P13.2: Chance of nothing", y, e, of(s.rows, s.cols, to.f), api.OK)
			}
		}
	}
}

// P13.2: of a format that is none Cast and Chance tell ErrRange and nothing, of what has numbers and of what has none.
func TestCastToNoFormat(t *testing.T) {
	for _, w := range layouts() {
		for _, s := range shapes() {
			for _, f := range noFormats() {
				x := w.some(s.rows, s.cols)
				y, e := Cast(x, f)
				holdTensor(t, "P13.2: Cast to no format", y, e, api.Tensor{}, api.ErrRange)
				y, e = Chance(x, f, 1, 2)
				holdTensor(t, "P13.2: Chance to no format", y, e, api.Tensor{}, api.ErrRange)
			}
		}
	}
}

// P13.2: what is cast to a wider format is cast back to itself, but for NaNs, that are plain.
func TestCastThereAndBack(t *testing.T) {
	for _, w := range []layout{half, brain} {
		x := w.mixed(48, 40)
		for i, v := range x.V {
			if v&^w.sign > w.inf {
				x.V[i] = w.quiet
			}
		}
		wide, _ := Cast(x, api.Single)
		back, e := Cast(wide, w.f)
		holdTensor(t, "P13.2: Cast there and back", back, e, x, api.OK)
	}
}
