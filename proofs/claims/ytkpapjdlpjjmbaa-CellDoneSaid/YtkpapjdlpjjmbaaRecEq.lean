/-
  Two records are compared, two rows of six numbers are compared.
-/
import Derived.Test.YtkpapjdlpjjmbaaRecImpl1
namespace Go.Proofs.Ytkpapjdlpjjmbaa.rec
open Go.RowKit Go.Proofs.Ytkpapjdlpjjmbaa
open Go.Proofs.Ytkpapjdlpjjmbaa.frame (inR)
set_option linter.unusedVariables false

theorem run_eq6 (f g : Ns) (hf : f.fine) (hg : g.fine) (W : World) :
    (Op.equalIn 10000 71 (.agg (nc f)) (.agg (nc g))).run Try.prog W = .ok (decide (f = g)) W := by
  have c1 : Try.prog.cellsOf 2 = 1 := by kernel_rfl
  have kl : ∀ f : Ns, f.fine → Try.prog.keyLits 2 71 (nc f).toList = some [.int .i64 f.b0, .int .i64 f.b1, .int .i64 f.b2, .int .i64 f.b3, .int .i64 f.b4, .int .i64 f.b5] := fun f ⟨h3, h4, h5, h6, h7, h8⟩ => by
    rw [kl_array 1 _ Try.underlying71 (by kernel_rfl), c1]
    simp [nc, List.range, List.range.loop, kl_int 0 _ Try.underlying2, wf64 h3, wf64 h4, wf64 h5, wf64 h6, wf64 h7, wf64 h8]
  refine run_eq_by (by kernel_rfl) 2 (by kernel_rfl) (by kernel_rfl) (kl f hf) (kl g hg) _ ?_ W
  obtain ⟨b0, b1, b2, b3, b4, b5⟩ := f
  obtain ⟨b0', b1', b2', b3', b4', b5'⟩ := g
  simp
theorem run_eq13 (f g : Rc) (hf : f.fine) (hg : g.fine) (W : World) :
    (Op.equalIn 10000 61 (.agg (rc f)) (.agg (rc g))).run Try.prog W = .ok (decide (f = g)) W := by
  have c1 : Try.prog.cellsOf 2 = 1 := by kernel_rfl
  have c3 : Try.prog.cellsOf 3 = 1 := by kernel_rfl
  have cb : Try.prog.cellsOf 4 = 1 := by kernel_rfl
  have kl : ∀ f : Rc, f.fine → Try.prog.keyLits 3 61 (rc f).toList = some [.int .i64 f.k, .int .i64 f.o, .int .i64 f.a, .int .i64 f.y, .int .i64 f.d, .int .i64 f.q, .int .i64 f.p, .int .i64 f.l, .int .i64 f.s, .int .i64 f.n, .bool f.on, .int .i64 f.z, .int .i64 f.t] := fun f ⟨h0, h1, h2, h3, h4, h5, h6, h7, h8, h9, h10, h11⟩ => by
    rw [kl_struct 2 _ Try.underlying61 (by kernel_rfl) (by kernel_rfl)]
    simp [rc, c1, c3, cb, kl_int 1 _ Try.underlying2, kl_int 1 _ Try.underlying3, kl_bool 1 _ Try.underlying4, wf64 h0, wf64 h1, wf64 h2, wf64 h3, wf64 h4, wf64 h5, wf64 h6, wf64 h7, wf64 h8, wf64 h9, wf64 h10, wf64 h11]
  refine run_eq_by (by kernel_rfl) 3 (by kernel_rfl) (by kernel_rfl) (kl f hf) (kl g hg) _ ?_ W
  obtain ⟨k, o, a, y, d, q, p, l, s, n, on, z, t⟩ := f
  obtain ⟨k', o', a', y', d', q', p', l', s', n', on', z', t'⟩ := g
  simp

theorem eq13_of {k o a y d q p l s n : Int} {on : Bool} {z t : Int} {k' o' a' y' d' q' p' l' s' n' : Int} {on' : Bool} {z' t' : Int} {f g : Rc} {r : Bool} (h : (⟨k, o, a, y, d, q, p, l, s, n, on, z, t⟩ : Rc) = f) (h' : (⟨k', o', a', y', d', q', p', l', s', n', on', z', t'⟩ : Rc) = g) (hf : f.fine) (hg : g.fine) (hr : decide (f = g) = r) (W : World) :
    (Op.equalIn 10000 61 (.agg #[.int .i64 k, .int .i64 o, .int .i64 a, .int .i64 y, .int .i64 d, .int .i64 q, .int .i64 p, .int .i64 l, .int .i64 s, .int .i64 n, .bool on, .int .i64 z, .int .i64 t]) (.agg #[.int .i64 k', .int .i64 o', .int .i64 a', .int .i64 y', .int .i64 d', .int .i64 q', .int .i64 p', .int .i64 l', .int .i64 s', .int .i64 n', .bool on', .int .i64 z', .int .i64 t'])).run Try.prog W = .ok r W := by
  subst h h'
  rw [← hr]
  exact run_eq13 ⟨k, o, a, y, d, q, p, l, s, n, on, z, t⟩ ⟨k', o', a', y', d', q', p', l', s', n', on', z', t'⟩ hf hg W
theorem eq6_of {b0 b1 b2 b3 b4 b5 b0' b1' b2' b3' b4' b5' : Int} {f g : Ns} {r : Bool} (h : (⟨b0, b1, b2, b3, b4, b5⟩ : Ns) = f) (h' : (⟨b0', b1', b2', b3', b4', b5'⟩ : Ns) = g) (hf : f.fine) (hg : g.fine) (hr : decide (f = g) = r) (W : World) :
    (Op.equalIn 10000 71 (.agg #[.int .i64 b0, .int .i64 b1, .int .i64 b2, .int .i64 b3, .int .i64 b4, .int .i64 b5]) (.agg #[.int .i64 b0', .int .i64 b1', .int .i64 b2', .int .i64 b3', .int .i64 b4', .int .i64 b5'])).run Try.prog W = .ok r W := by
  subst h h'
  rw [← hr]
  exact run_eq6 ⟨b0, b1, b2, b3, b4, b5⟩ ⟨b0', b1', b2', b3', b4', b5'⟩ hf hg W

end Go.Proofs.Ytkpapjdlpjjmbaa.rec
