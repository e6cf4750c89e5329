/-
  Contracts of package scan's Put, and of the document's own.
-/
import Derived.Test.YtegbaidnkniccaaFrs
import Derived.Test.YtegbaidnkniccaaFrameRef2
namespace Go.Proofs.Ytegbaidnkniccaa.scan
open Go.RowKit Go.Proofs.Ytegbaidnkniccaa Go.Proofs.Ytegbaidnkniccaa.frame
set_option linter.unusedVariables false

def allRight (l : List Fr) : Bool := l.all right
/-- what comes of Put: the bytes, or nothing. -/
def Putted (l : List Fr) (w : World) (e : Ending) (w' : World) : Prop :=
  ∃ A c, e = .returned (.tuple #[.slice A (72 * l.length) c, .int .i64 0]) ∧ OwnBys w' w.heap.size 5 A (72 * l.length) c (put l) ∧ Below w.heap.size w w'
theorem put_take {l : List Fr} {j : Nat} {f : Fr} (h : l[j]? = some f) : put (l.take (j + 1)) = put (l.take j) ++ enc f := by
  rw [List.take_add_one, h]; simp [put]
theorem right_take {l : List Fr} {j : Nat} {f : Fr} (h : l[j]? = some f) (h1 : allRight l = true) : right f = true := by
  unfold allRight at h1; rw [List.all_eq_true] at h1
  exact h1 f (List.mem_of_getElem? h)

set_option maxHeartbeats 2000000 in
theorem put_yes (A : Option Addr) (m c : Nat) (l : List Fr) (w : World) (hx : Frs w w.heap.size A l) (hm : l.length = m) (hmax : m ≤ 100) (hr : allRight l = true) :
    Calls Try.prog 9 #[.slice A m c] w (Putted l w) := by
  have HM : Hid (l.length = m) := Lib.hid hm
  have HR : Hid (allRight l = true) := Lib.hid hr
  clear hm hr
  have hinfo : Hid ((Try.prog.info? 5).map (fun i => (i.zero, i.size, i.bytes)) = some (some (.int .u8 0), 1, 1)) := Lib.hid (by kernel_rfl)
  go_enter Try.func9, Try.ntmps9
  go_wp2
  go_loopw [4, 11] (fun s i wr => ∃ (j c' : Nat) (A' : Option Addr), j ≤ m ∧ i = .int .i64 j ∧ s = .slice A' (72 * j) c' ∧ Hid (OwnBys wr w.heap.size 5 A' (72 * j) c' (put (l.take j))) ∧ Below w.heap.size w wr) (fun _ i _ => m - (intOf i).toNat)
  case atStart => exact ⟨0, 0, none, Nat.zero_le _, rfl, rfl, Lib.hid OwnBys.nil, Below.refl _ _⟩
  case round =>
    obtain ⟨j, c', A', hj, rfl, rfl, HO, hbr⟩ := hrel
    by_cases hlt : j < m
    · obtain ⟨b, off, e, k, kd, b0, b1, b2, b3, b4, b5, rfl, hb, HX, x0, x1, x2, x3, x4, x5, x6, x7, x8, HF⟩ := (hx.below hbr).at_ (j := j) (by rw [HM.out]; exact hlt)
      have hsz := hbr.size
      have hblt : b < wr.heap.size := by omega
      obtain ⟨f, HFF⟩ : ∃ f, Hid ((⟨e, k, kd, b0, b1, b2, b3, b4, b5⟩ : Fr) = f) := ⟨_, Lib.hid rfl⟩
      have HC : Hid (∀ W, Calls Try.prog 16 #[.agg #[.int .i64 e, .int .i64 k, .int .i64 kd, .int .i64 b0, .int .i64 b1, .int .i64 b2, .int .i64 b3, .int .i64 b4, .int .i64 b5]] W (Encoded f W)) := Lib.hid (fun W => encode_yes_of HFF.out (by rw [← HFF.out]; exact HF.out) (right_take (by rw [HX.out, HFF.out]) HR.out) W)
      have HP : Hid (put (l.take (j + 1)) = put (l.take j) ++ enc f) := Lib.hid (put_take (by rw [HX.out, HFF.out]))
      have HW := Lib.hid (hbr.alloc hsz (.cells #[.int .i64 e, .int .i64 k, .int .i64 kd, .int .i64 b0, .int .i64 b1, .int .i64 b2, .int .i64 b3, .int .i64 b4, .int .i64 b5] 28))
      go_wp2_with fail
      refine Calls.mono (HC.out _) ?_
      rintro e1 w1 ⟨g, rfl, hown, hb1⟩
      have HB1 := Lib.hid (HW.out.trans (hb1.mono (by simp; omega)))
      have HO1 : Hid (OwnBys w1 w.heap.size 5 A' (72 * j) c' (put (l.take j))) := Lib.hid (own_later (own_later HO.out ((Below.refl _ _).alloc (Nat.le_refl _) _)) hb1)
      have HG1 := Lib.hid hown.bys
      have hsz1 : w.heap.size ≤ w1.heap.size := HB1.out.size
      clear hb1 hown
      go_wp2_with (at_builtin; refine wpList_append_bys rfl (.tmp 23) (.tmp 24) _ rfl w.heap.size 5 Try.underlying23 hinfo.out rfl HO1.out rfl HG1.out (enc_len f) (by omega) hsz1 ?_; intro A3 c3 w3 hown3 hgr3 hat3; have HO3 : Hid (OwnBys w3 w.heap.size 5 A3 (72 * (j + 1)) c3 (put (l.take (j + 1)))) := Lib.hid (by rw [HP.out]; exact hown3); have hb3 : Below w.heap.size w w3 := HB1.out.grown hgr3 hsz1 (fun g hg => (HO1.out.block g hg).1); clear hgr3 hat3 hown3)
      go_roundw
      case rel => exact ⟨j + 1, c3, A3, by omega, by go_num, rfl, HO3, hb3⟩
      case measure => first | (simp [intOf]; done) | (simp [intOf]; omega)
    · have HE : Hid (l.take j = l) := Lib.hid (List.take_of_length_le (by rw [HM.out]; omega))
      have hjm : j = m := by omega
      subst hjm
      go_wp2
      go_ret2
      refine ⟨A', c', by rw [HM.out]; rfl, by rw [HM.out]; have := HO.out; rw [HE.out] at this; exact this, hbr⟩

set_option maxHeartbeats 2000000 in
/-- the document's own Put. -/
theorem rput_any (A : Option Addr) (m c : Nat) (l : List Fr) (w : World) (hx : Frs w w.heap.size A l) (hm : l.length = m) (hmax : m ≤ 100) :
    Calls Try.prog 10 #[.slice A m c] w (Made (put l) (72 * m) w) := by
  have HM : Hid (l.length = m) := Lib.hid hm
  clear hm
  have hinfo : Hid ((Try.prog.info? 5).map (fun i => (i.zero, i.size, i.bytes)) = some (some (.int .u8 0), 1, 1)) := Lib.hid (by kernel_rfl)
  go_enter Try.func10, Try.ntmps10
  go_wp2
  go_loopw [3, 4] (fun s i wr => ∃ (j c' : Nat) (A' : Option Addr), j ≤ m ∧ i = .int .i64 j ∧ s = .slice A' (72 * j) c' ∧ Hid (OwnBys wr w.heap.size 5 A' (72 * j) c' (put (l.take j))) ∧ Below w.heap.size w wr) (fun _ i _ => m - (intOf i).toNat)
  case atStart => exact ⟨0, 0, none, Nat.zero_le _, rfl, rfl, Lib.hid OwnBys.nil, Below.refl _ _⟩
  case round =>
    obtain ⟨j, c', A', hj, rfl, rfl, HO, hbr⟩ := hrel
    by_cases hlt : j < m
    · obtain ⟨b, off, e, k, kd, b0, b1, b2, b3, b4, b5, rfl, hb, HX, x0, x1, x2, x3, x4, x5, x6, x7, x8, HF⟩ := (hx.below hbr).at_ (j := j) (by rw [HM.out]; exact hlt)
      have hsz := hbr.size
      have hblt : b < wr.heap.size := by omega
      obtain ⟨f, HFF⟩ : ∃ f, Hid ((⟨e, k, kd, b0, b1, b2, b3, b4, b5⟩ : Fr) = f) := ⟨_, Lib.hid rfl⟩
      have HC : Hid (∀ W, Calls Try.prog 17 #[.agg #[.int .i64 e, .int .i64 k, .int .i64 kd, .int .i64 b0, .int .i64 b1, .int .i64 b2, .int .i64 b3, .int .i64 b4, .int .i64 b5]] W (Made (enc f) 72 W)) := Lib.hid (fun W => rencode_of HFF.out W)
      have HP : Hid (put (l.take (j + 1)) = put (l.take j) ++ enc f) := Lib.hid (put_take (by rw [HX.out, HFF.out]))
      have HW := Lib.hid hbr
      go_wp2_with fail
      refine Calls.mono (HC.out _) ?_
      rintro e1 w1 ⟨A1, c1, rfl, hown, hb1⟩
      have HB1 := Lib.hid (HW.out.trans (hb1.mono hsz))
      have HO1 : Hid (OwnBys w1 w.heap.size 5 A' (72 * j) c' (put (l.take j))) := Lib.hid (own_later HO.out hb1)
      have HG1 := Lib.hid hown.bys
      have hsz1 : w.heap.size ≤ w1.heap.size := HB1.out.size
      clear hb1 hown
      go_wp2_with (at_builtin; refine wpList_append_bys rfl (.tmp 11) (.tmp 16) _ rfl w.heap.size 5 Try.underlying23 hinfo.out rfl HO1.out rfl HG1.out (enc_len f) (by omega) hsz1 ?_; intro A3 c3 w3 hown3 hgr3 hat3; have HO3 : Hid (OwnBys w3 w.heap.size 5 A3 (72 * (j + 1)) c3 (put (l.take (j + 1)))) := Lib.hid (by rw [HP.out]; exact hown3); have hb3 : Below w.heap.size w w3 := HB1.out.grown hgr3 hsz1 (fun g hg => (HO1.out.block g hg).1); clear hgr3 hat3 hown3)
      go_roundw
      case rel => exact ⟨j + 1, c3, A3, by omega, by go_num, rfl, HO3, hb3⟩
      case measure => first | (simp [intOf]; done) | (simp [intOf]; omega)
    · have HE : Hid (l.take j = l) := Lib.hid (List.take_of_length_le (by rw [HM.out]; omega))
      have hjm : j = m := by omega
      subst hjm
      go_wp2
      go_ret
      refine ⟨A', c', rfl, by have := HO.out; rw [HE.out] at this; exact this, hbr⟩
end Go.Proofs.Ytegbaidnkniccaa.scan
