import PyProof.Rows.All
import Wide.All
import OpenK.AllK
import Wide.FinOn
import HandS.ForMost
import HandS.Deep
import HandS.Walk
import HandS.IsInst
import HandS.TupMul
import HandS.TupAny
import HandS.Zip
import HandS.Conv
import HandS.Wide
import HandS.More
import KE.KDictZip
import HandS.Zip0
import KE.GoesEnum
import KE.DataMinMax
import KE.SortData
import HandS.Comp
import PyProof.P3In
import PyProof.StrOps2
import HandS.Dict
import HandS.DictComp
import HandS.StrMore
import HandS.Codes
import KE.IntTextLaws
import KE.OsScanText
import HandS.Exc
import HandS.ExcOwn
import HandS.ExcIs
import HandS.TryOnly
import HandS.WordsExc
import HandS.MapSum
import HandS.RepeatKit
import HandS.Words
import HandS.RevRange
import HandS.WideBits
import PySem.Challenge.RW_partmeet_k10_checks_and_frames
set_option Elab.async false
set_option linter.all false
set_option maxRecDepth 100000
set_option maxHeartbeats 2000000
namespace L2
open PySem PySem.Spec PyProof.Rows
/-! data at any depth; the lists tracked -/
mutual
inductive Dv (K : PySem.W.Frag) (H : Hp) : V → PyData → Prop
  | non : Dv K H .non .none
  | bl (b : Bool) : Dv K H (.bl b) (.bool b)
  | int (i : Int) : Dv K H (.int i) (.int i)
  | str (x : Str) : Dv K H (.str x) (.str x)
  | lst {a : Addr} {xs : List V} {ds : List PyData} : H a = some (.lst xs) → DvAll K H xs ds → Dv K H (.ref a) (.list ds)
  | tup {a : Addr} {xs : List V} {ds : List PyData} : SqT K H a xs → DvAll K H xs ds → Dv K H (.ref a) (.tuple ds)
inductive DvAll (K : PySem.W.Frag) (H : Hp) : List V → List PyData → Prop
  | nil : DvAll K H [] []
  | cons {v : V} {vs : List V} {d : PyData} {ds : List PyData} : Dv K H v d → DvAll K H vs ds → DvAll K H (v :: vs) (d :: ds)
end
mutual
theorem Dv.dp {K : PySem.W.Frag} {H : Hp} : ∀ {v : V} {d : PyData}, Dv K H v d → Dp K H v d
  | _, _, .non => .non
  | _, _, .bl b => .bl b
  | _, _, .int i => .int i
  | _, _, .str x => .str x
  | _, _, .lst h a => .lst (SqL.of h) (DvAll.dp a)
  | _, _, .tup h a => .tup h (DvAll.dp a)
theorem DvAll.dp {K : PySem.W.Frag} {H : Hp} : ∀ {vs : List V} {ds : List PyData}, DvAll K H vs ds → DpAll K H vs ds
  | _, _, .nil => .nil
  | _, _, .cons a b => .cons (Dv.dp a) (DvAll.dp b)
end
end L2
namespace DL
open PySem PySem.Spec PyProof.Rows L2

/-! ### heaps and data -/
theorem same_t {K : PySem.W.Frag} {H H' : Hp} {a : Addr} {xs : List V} (e : Same H H') (h : SqT K H a xs) : SqT K H' a xs := by
  rcases h with (h | ⟨o, h⟩) | h
  · exact .inl (.inl (e _ _ h))
  · exact .inl (.inr ⟨o, e _ _ h⟩)
  · exact .inr h
theorem same_new {H : Hp} {p : Addr} {o : HO} (h : H p = none) : Same H (upd H p o) := fun a u e => by
  rw [upd_ne (ne_of_none e h)]
  exact e
section
variable {K : PySem.W.Frag} {H H' : Hp}
mutual
theorem dp_mono (e : Same H H') : ∀ {v : V} {d : PyData}, Dp K H v d → Dp K H' v d
  | _, _, .non => .non
  | _, _, .bl b => .bl b
  | _, _, .int i => .int i
  | _, _, .str x => .str x
  | _, _, .lst h a => .lst (e.seq h) (dpAll_mono e a)
  | _, _, .tup h a => .tup (same_t e h) (dpAll_mono e a)
theorem dpAll_mono (e : Same H H') : ∀ {vs : List V} {ds : List PyData}, DpAll K H vs ds → DpAll K H' vs ds
  | _, _, .nil => .nil
  | _, _, .cons a b => .cons (dp_mono e a) (dpAll_mono e b)
end
mutual
theorem dv_mono (e : Same H H') : ∀ {v : V} {d : PyData}, Dv K H v d → Dv K H' v d
  | _, _, .non => .non
  | _, _, .bl b => .bl b
  | _, _, .int i => .int i
  | _, _, .str x => .str x
  | _, _, .lst h a => .lst (e _ _ h) (dvAll_mono e a)
  | _, _, .tup h a => .tup (same_t e h) (dvAll_mono e a)
theorem dvAll_mono (e : Same H H') : ∀ {vs : List V} {ds : List PyData}, DvAll K H vs ds → DvAll K H' vs ds
  | _, _, .nil => .nil
  | _, _, .cons a b => .cons (dv_mono e a) (dvAll_mono e b)
end
end
end DL
namespace L2
open PySem PySem.Spec PyProof.Rows
section
variable {K : PySem.W.Frag} {H H' : Hp}
theorem DvAll.len : ∀ {vs : List V} {ds : List PyData}, DvAll K H vs ds → vs.length = ds.length
  | _, _, .nil => rfl
  | _, _, .cons _ b => congrArg (· + 1) (DvAll.len b)
theorem DvAll.at : ∀ {vs : List V} {ds : List PyData}, DvAll K H vs ds → ∀ {i : Nat} {v : V} {d : PyData}, vs[i]? = some v → ds[i]? = some d → Dv K H v d
  | _, _, .nil, i, v, d, h, _ => by simp at h
  | _, _, .cons a b, 0, v, d, h, g => by simp at h g; subst h; subst g; exact a
  | _, _, .cons a b, i + 1, v, d, h, g => DvAll.at b (i := i) (by simpa using h) (by simpa using g)
theorem DvAll.get {vs : List V} {ds : List PyData} (h : DvAll K H vs ds) {i : Nat} {d : PyData} (g : ds[i]? = some d) : ∃ v, vs[i]? = some v ∧ Dv K H v d := by
  have hi : i < ds.length := (List.getElem?_eq_some_iff.mp g).1
  have hv : i < vs.length := by rw [h.len]; exact hi
  exact ⟨vs[i], List.getElem?_eq_getElem hv, h.at (List.getElem?_eq_getElem hv) g⟩
theorem DvAll.getV {vs : List V} {ds : List PyData} (h : DvAll K H vs ds) {i : Nat} {v : V} (g : vs[i]? = some v) : ∃ d, ds[i]? = some d ∧ Dv K H v d := by
  have hi : i < vs.length := (List.getElem?_eq_some_iff.mp g).1
  have hv : i < ds.length := by rw [← h.len]; exact hi
  exact ⟨ds[i], List.getElem?_eq_getElem hv, h.at g (List.getElem?_eq_getElem hv)⟩
theorem DvAll.of : ∀ {vs : List V} {ds : List PyData}, vs.length = ds.length → (∀ (i : Nat) (v : V) (d : PyData), vs[i]? = some v → ds[i]? = some d → Dv K H v d) → DvAll K H vs ds
  | [], [], _, _ => .nil
  | v :: vs, d :: ds, h, g => .cons (g 0 v d rfl rfl) (DvAll.of (by simpa using h) fun i v d a b => g (i + 1) v d (by simpa using a) (by simpa using b))
  | [], _ :: _, h, _ => by simp at h
  | _ :: _, [], h, _ => by simp at h
theorem DvAll.app : ∀ {vs : List V} {ds : List PyData} {us : List V} {es : List PyData}, DvAll K H vs ds → DvAll K H us es → DvAll K H (vs ++ us) (ds ++ es)
  | _, _, _, _, .nil, g => g
  | _, _, _, _, .cons a b, g => .cons a (DvAll.app b g)
theorem DvAll.snoc {vs : List V} {ds : List PyData} {v : V} {d : PyData} (h : DvAll K H vs ds) (g : Dv K H v d) : DvAll K H (vs ++ [v]) (ds ++ [d]) := h.app (.cons g .nil)
theorem DvAll.take : ∀ {vs : List V} {ds : List PyData} (n : Nat), DvAll K H vs ds → DvAll K H (vs.take n) (ds.take n)
  | _, _, 0, _ => .nil
  | _, _, _ + 1, .nil => .nil
  | _, _, n + 1, .cons a b => .cons a (DvAll.take n b)
theorem DvAll.drop : ∀ {vs : List V} {ds : List PyData} (n : Nat), DvAll K H vs ds → DvAll K H (vs.drop n) (ds.drop n)
  | _, _, 0, h => h
  | _, _, _ + 1, .nil => .nil
  | _, _, n + 1, .cons _ b => DvAll.drop n b
theorem DvAll.set : ∀ {vs : List V} {ds : List PyData} (n : Nat) {v : V} {d : PyData}, DvAll K H vs ds → Dv K H v d → DvAll K H (vs.set n v) (ds.set n d)
  | _, _, _, _, _, .nil, _ => .nil
  | _, _, 0, _, _, .cons _ b, g => .cons g b
  | _, _, n + 1, _, _, .cons a b, g => .cons a (DvAll.set n b g)
theorem DvAll.nil_iff {vs : List V} {ds : List PyData} (h : DvAll K H vs ds) : vs = [] ↔ ds = [] := by
  cases h with
  | nil => simp
  | cons a b => simp
/-- ints -/
theorem DvAll.ints : ∀ {ns : List Int} {vs : List V}, DvAll K H vs (ns.map PyData.int) → vs = ns.map V.int
  | [], _, h => by cases h; rfl
  | n :: ns, _, h => by
    cases h with
    | cons a b =>
      cases a
      rw [DvAll.ints (ns := ns) b]
      rfl
theorem DvAll.ofInts : ∀ (ns : List Int), DvAll K H (ns.map V.int) (ns.map PyData.int)
  | [] => .nil
  | n :: ns => .cons (.int n) (DvAll.ofInts ns)
theorem DvAll.bools : ∀ {ns : List Bool} {vs : List V}, DvAll K H vs (ns.map PyData.bool) → vs = ns.map V.bl
  | [], _, h => by cases h; rfl
  | n :: ns, _, h => by
    cases h with
    | cons a b =>
      cases a
      rw [DvAll.bools (ns := ns) b]
      rfl
theorem DvAll.strs : ∀ {ns : List Str} {vs : List V}, DvAll K H vs (ns.map PyData.str) → vs = ns.map V.str
  | [], _, h => by cases h; rfl
  | n :: ns, _, h => by
    cases h with
    | cons a b =>
      cases a
      rw [DvAll.strs (ns := ns) b]
      rfl
end

end L2
namespace DL
open PySem PySem.Spec PyProof.Rows L2
/-! ### what a slot, a cell holds -/
/-- data that stays, or a value as it is -/
inductive W where
  | d (x : PyData)
  | s (x : PyData)
  | r (v : V)
/-- any other kind of owned thing, by what it must keep -/
structure XC where
  ok : PySem.W.Frag → Hp → Hp → Addr → Prop
  mono : ∀ {K : PySem.W.Frag} {Hr Hr' H : Hp} {p : Addr}, Same Hr Hr' → ok K Hr H p → ok K Hr' H p
  some_ : ∀ {K : PySem.W.Frag} {Hr H : Hp} {p : Addr}, ok K Hr H p → ∃ o, H p = some o
  heap : ∀ {K : PySem.W.Frag} {Hr H H' : Hp} {p : Addr}, ok K Hr H p → H' p = H p → ok K Hr H' p
/-- what an owned address holds: a list of data, or any thing -/
inductive Cell where
  | l (ds : List PyData)
  | o (h : HO)
  | k (kvs : List (Key × PyData))
  | t (kvs : List (List Key × PyData))
  | x (r : XC)
abbrev Own := List (Addr × Cell)
abbrev Tau := List (Option W)

def WOk (K : PySem.W.Frag) (Hr : Hp) (v : V) : W → Prop
  | .d x => Dv K Hr v x
  | .s x => Dp K Hr v x
  | .r u => v = u
/-- what a dict's values are -/
abbrev KD {κ : Type} (K : PySem.W.Frag) (Hr : Hp) : List (κ × V) → List (κ × PyData) → Prop := Paired fun a b => a.1 = b.1 ∧ Dv K Hr a.2 b.2
theorem KD.mono {κ : Type} {K : PySem.W.Frag} {Hr Hr' : Hp} (e : Same Hr Hr') {vs : List (κ × V)} {kvs : List (κ × PyData)} (h : KD K Hr vs kvs) : KD K Hr' vs kvs := Paired.mapP h fun _ _ q => ⟨q.1, dv_mono e q.2⟩
def CellOk (K : PySem.W.Frag) (Hr H : Hp) (p : Addr) : Cell → Prop
  | .l ds => ∃ vs, H p = some (.lst vs) ∧ DvAll K Hr vs ds
  | .o h => H p = some h
  | .k kvs => ∃ vs, H p = some (.dK vs) ∧ KD K Hr vs kvs
  | .t kvs => ∃ vs, H p = some (.dT vs) ∧ KD K Hr vs kvs
  | .x r => r.ok K Hr H p
structure Sep (K : PySem.W.Frag) (Hr : Hp) (O : Own) (H : Hp) : Prop where
  ex : Same Hr H
  own : ∀ x ∈ O, Hr x.1 = none ∧ CellOk K Hr H x.1 x.2
  nd : (O.map (·.1)).Nodup
structure En (K : PySem.W.Frag) (Hr : Hp) (σ : L2.St) (τ : Tau) : Prop where
  len : σ.length = τ.length
  at_ : ∀ (i : Nat) (w : W), τ[i]? = some (some w) → ∃ v, σ[i]? = some (some v) ∧ WOk K Hr v w

section
variable {K : PySem.W.Frag} {Hr Hr' H H' : Hp} {O O' : Own} {σ : L2.St} {τ : Tau} {v : V} {w : W}
theorem WOk.mono (e : Same Hr Hr') (h : WOk K Hr v w) : WOk K Hr' v w := by
  cases w with
  | d x => exact dv_mono e h
  | s x => exact dp_mono e h
  | r u => exact h
theorem CellOk.mono {p : Addr} {c : Cell} (e : Same Hr Hr') (h : CellOk K Hr H p c) : CellOk K Hr' H p c := by
  cases c with
  | l ds =>
    obtain ⟨vs, a, b⟩ := h
    exact ⟨vs, a, dvAll_mono e b⟩
  | o u => exact h
  | k kvs =>
    obtain ⟨vs, a, b⟩ := h
    exact ⟨vs, a, b.mono e⟩
  | t kvs =>
    obtain ⟨vs, a, b⟩ := h
    exact ⟨vs, a, b.mono e⟩
  | x r => exact r.mono e h
theorem CellOk.some {p : Addr} {c : Cell} (h : CellOk K Hr H p c) : ∃ o, H p = some o := by
  cases c with
  | l ds =>
    obtain ⟨vs, a, b⟩ := h
    exact ⟨_, a⟩
  | o u => exact ⟨_, h⟩
  | k kvs =>
    obtain ⟨vs, a, b⟩ := h
    exact ⟨_, a⟩
  | t kvs =>
    obtain ⟨vs, a, b⟩ := h
    exact ⟨_, a⟩
  | x r => exact r.some_ h
theorem CellOk.heap {p : Addr} {c : Cell} (h : CellOk K Hr H p c) (e : H' p = H p) : CellOk K Hr H' p c := by
  cases c with
  | l ds =>
    obtain ⟨vs, a, b⟩ := h
    exact ⟨vs, e.trans a, b⟩
  | o u => exact e.trans h
  | k kvs =>
    obtain ⟨vs, a, b⟩ := h
    exact ⟨vs, e.trans a, b⟩
  | t kvs =>
    obtain ⟨vs, a, b⟩ := h
    exact ⟨vs, e.trans a, b⟩
  | x r => exact r.heap h e
theorem En.mono (e : Same Hr Hr') (h : En K Hr σ τ) : En K Hr' σ τ := ⟨h.len, fun i w q => by
  obtain ⟨v, a, b⟩ := h.at_ i w q
  exact ⟨v, a, b.mono e⟩⟩
theorem En.set (h : En K Hr σ τ) (i : Nat) (q : WOk K Hr v w) : En K Hr (σ.set i (some v)) (τ.set i (some w)) := by
  refine ⟨by rw [List.length_set, List.length_set]; exact h.len, fun j u a => ?_⟩
  rw [List.getElem?_set] at a
  rw [List.getElem?_set]
  by_cases hij : i = j
  · subst hij
    rw [if_pos rfl] at a
    rw [if_pos rfl]
    by_cases hl : i < τ.length
    · rw [if_pos hl] at a
      cases a
      rw [if_pos (by rw [h.len]; exact hl)]
      exact ⟨v, rfl, q⟩
    · rw [if_neg hl] at a
      cases a
  · rw [if_neg hij] at a
    rw [if_neg hij]
    exact h.at_ j u a
/-- a fresh address: it is no owned one -/
theorem Sep.fresh (S : Sep K Hr O H) {p : Addr} (h : H p = none) : Hr p = none ∧ ∀ x ∈ O, x.1 ≠ p := by
  refine ⟨S.ex.free h, fun x hx e => ?_⟩
  obtain ⟨o, q⟩ := (S.own x hx).2.some
  rw [e, h] at q
  cases q
/-- a new thing that stays -/
theorem Sep.new (S : Sep K Hr O H) {p : Addr} {o : HO} (h : H p = none) : Sep K (upd Hr p o) O (upd H p o) := by
  obtain ⟨h1, h2⟩ := S.fresh h
  refine ⟨fun a u e => ?_, fun x hx => ?_, S.nd⟩
  · by_cases q : a = p
    · subst q
      rw [upd_same] at e ⊢
      exact e
    · rw [upd_ne q] at e ⊢
      exact S.ex a u e
  · have ne := h2 x hx
    obtain ⟨a, b⟩ := S.own x hx
    exact ⟨by rw [upd_ne ne]; exact a, (b.mono (same_new h1)).heap (upd_ne ne)⟩
/-- a new thing that is owned -/
theorem Sep.newOwn (S : Sep K Hr O H) {p : Addr} {o : HO} {c : Cell} (h : H p = none) (hc : CellOk K Hr (upd H p o) p c) : Sep K Hr ((p, c) :: O) (upd H p o) := by
  obtain ⟨h1, h2⟩ := S.fresh h
  refine ⟨fun a u e => ?_, fun x hx => ?_, ?_⟩
  · rw [upd_ne (ne_of_none e h1)]
    exact S.ex a u e
  · rcases List.mem_cons.mp hx with e | e
    · subst e
      exact ⟨h1, hc⟩
    · obtain ⟨a, b⟩ := S.own x e
      exact ⟨a, b.heap (upd_ne (h2 x e))⟩
  · rw [List.map_cons, List.nodup_cons]
    refine ⟨fun m => ?_, S.nd⟩
    obtain ⟨x, hx, e⟩ := List.mem_map.mp m
    exact h2 x hx e
/-- an owned thing is written -/
theorem Sep.put (S : Sep K Hr O H) {j : Nat} {p : Addr} {c c' : Cell} {o : HO} (hj : O[j]? = some (p, c)) (hc : CellOk K Hr (upd H p o) p c') : Sep K Hr (O.set j (p, c')) (upd H p o) := by
  have hjl : j < O.length := (List.getElem?_eq_some_iff.mp hj).1
  have hm : (p, c) ∈ O := List.mem_of_getElem? hj
  have h1 := (S.own _ hm).1
  have keys : (O.set j (p, c')).map (·.1) = O.map (·.1) := by
    rw [List.map_set]
    apply List.ext_getElem?
    intro i
    rw [List.getElem?_set]
    by_cases e : j = i
    · subst e
      rw [if_pos rfl, if_pos (by rw [List.length_map]; exact hjl), List.getElem?_map, hj]
      rfl
    · rw [if_neg e]
  refine ⟨fun a u e => ?_, fun x hx => ?_, by rw [keys]; exact S.nd⟩
  · rw [upd_ne (ne_of_none e h1)]
    exact S.ex a u e
  · obtain ⟨i, hi⟩ := List.mem_iff_getElem?.mp hx
    rw [List.getElem?_set] at hi
    by_cases e : j = i
    · subst e
      rw [if_pos rfl, if_pos hjl] at hi
      cases hi
      exact ⟨h1, hc⟩
    · rw [if_neg e] at hi
      have hx' : x ∈ O := List.mem_of_getElem? hi
      have ne : x.1 ≠ p := fun q => by
        have hil : i < O.length := (List.getElem?_eq_some_iff.mp hi).1
        have a1 : (O.map (·.1))[i]? = some p := by rw [List.getElem?_map, hi]; simp [q]
        have a2 : (O.map (·.1))[j]? = some p := by rw [List.getElem?_map, hj]; rfl
        have nd := S.nd
        exact e ((List.getElem?_inj (by rw [List.length_map]; exact hjl) nd).mp (a2.trans a1.symm))
      obtain ⟨a, b⟩ := S.own x hx'
      exact ⟨a, b.heap (upd_ne ne)⟩
theorem Sep.cell (S : Sep K Hr O H) {j : Nat} {p : Addr} {c : Cell} (hj : O[j]? = some (p, c)) : CellOk K Hr H p c := (S.own _ (List.mem_of_getElem? hj)).2
/-- an owned list is let go: it stays from now on -/
theorem Sep.keep (S : Sep K Hr ((p, .l ds) :: O) H) : ∃ Hr', Same Hr Hr' ∧ Sep K Hr' O H ∧ Dv K Hr' (.ref p) (.list ds) := by
  obtain ⟨h1, vs, h2, h3⟩ := S.own _ List.mem_cons_self
  have e := same_new (o := .lst vs) h1
  refine ⟨upd Hr p (.lst vs), e, ⟨fun a u q => ?_, fun x hx => ?_, ?_⟩, .lst upd_same (dvAll_mono e h3)⟩
  · by_cases r : a = p
    · subst r
      rw [upd_same] at q
      cases q
      exact h2
    · rw [upd_ne r] at q
      exact S.ex a u q
  · obtain ⟨a, b⟩ := S.own x (List.mem_cons_of_mem _ hx)
    have ne : x.1 ≠ p := fun q => by
      have nd := S.nd
      rw [List.map_cons, List.nodup_cons] at nd
      exact nd.1 (List.mem_map.mpr ⟨x, hx, q⟩)
    exact ⟨by rw [upd_ne ne]; exact a, b.mono e⟩
  · have nd := S.nd
    rw [List.map_cons, List.nodup_cons] at nd
    exact nd.2
/-- an owned thing is forgotten -/
theorem Sep.drop (S : Sep K Hr (x :: O) H) : Sep K Hr O H := ⟨S.ex, fun y hy => S.own y (List.mem_cons_of_mem _ hy), by
  have nd := S.nd
  rw [List.map_cons, List.nodup_cons] at nd
  exact nd.2⟩
end
end DL

set_option Elab.async false
set_option linter.all false
set_option maxRecDepth 100000
set_option maxHeartbeats 2000000
namespace DL
open PySem PySem.Spec PyProof.Rows L2

/-! ### the strongest readings -/
def te (X : Cx) (e : Expr) : TE := fun σ H Q => ∀ (pins : List (Addr × Obj)) (s : Shared), Inv X pins σ H s → wpAny (model X.prog X.w) X.A (eval e X.env) (EP X pins σ Q) X.xe s
def tt (X : Cx) (e : Expr) : TT := fun σ H Q => ∀ (pins : List (Addr × Obj)) (s : Shared), Inv X pins σ H s → wpAny (model X.prog X.w) X.A (isTrue e X.env (eval e X.env)) (TP X pins σ Q) X.xe s
def tw (X : Cx) (e : Expr) : TT := fun σ H Q => ∀ (whole : Sem Value) (pins : List (Addr × Obj)) (s : Shared), Inv X pins σ H s → wpAny (model X.prog X.w) X.A (isTrue e X.env whole) (TP X pins σ Q) X.xe s
def ta (X : Cx) (es : List Expr) : TA := fun σ H Q => ∀ (pos : Pos) (pins : List (Addr × Obj)) (s : Shared), Inv X pins σ H s → wpAny (model X.prog X.w) X.A (spliced (backTo pos (starEach es X.env))) (AP X pins σ Q) X.xe s
def ts (X : Cx) (st : Stmt) : TS := fun D σ H => ∀ (pins : List (Addr × Obj)) (s : Shared), Inv X pins σ H s → wpAny (model X.prog X.w) X.A (exec st X.env) (SP X pins D) X.xe s
def tss (X : Cx) (st : List Stmt) : TS := fun D σ H => ∀ (pins : List (Addr × Obj)) (s : Shared), Inv X pins σ H s → wpAny (model X.prog X.w) X.A (execs st X.env) (SP X pins D) X.xe s
section
variable {X : Cx} {e : Expr} {es : List Expr} {st : Stmt} {sts : List Stmt}
theorem pe_te : PE X e (te X e) := ⟨fun pins s _ _ _ I h => h pins s I⟩
theorem pt_tt : PT X e (tt X e) := ⟨fun pins s _ _ _ I h => h pins s I⟩
theorem pw_tw : PW X e (tw X e) := ⟨fun whole pins s _ _ _ I h => h whole pins s I⟩
theorem pa_ta : PA X es (ta X es) := ⟨fun pos pins s _ _ _ I h => h pos pins s I⟩
theorem ps_ts : PS X st (ts X st) := ⟨fun pins s _ _ _ I h => h pins s I⟩
theorem pss_tss : PSs X sts (tss X sts) := ⟨fun pins s _ _ _ I h => h pins s I⟩
theorem te_mono {σ : L2.St} {H : Hp} {Q Q' : VK} (h : te X e σ H Q) (q : ∀ v H', Q v H' → Q' v H') : te X e σ H Q' := fun pins s I => thn (h pins s I) fun u s' ⟨v, H', I', r, p⟩ => ⟨v, H', I', r, q v H' p⟩
end
/-- operations by values: the strongest -/
def BR (X : Cx) (f : Value → Value → Sem Value) : R2 := fun x y H Q => ∀ (pins : List (Addr × Obj)) (s : Shared) (σ : L2.St) (v u : Value), Inv X pins σ H s → RelV x v → RelV y u → wpAny (model X.prog X.w) X.A (f v u) (EP X pins σ Q) X.xe s
theorem br_ok {X : Cx} {f : Value → Value → Sem Value} : OpR X f (BR X f) := fun pins s σ H x y v u Q I r1 r2 h => h pins s σ v u I r1 r2
def UR (X : Cx) (f : Value → Sem Value) : V → Hp → VK → Prop := fun x H Q => ∀ (pins : List (Addr × Obj)) (s : Shared) (σ : L2.St) (v : Value), Inv X pins σ H s → RelV x v → wpAny (model X.prog X.w) X.A (f v) (EP X pins σ Q) X.xe s
theorem ur_ok {X : Cx} {f : Value → Sem Value} : UnR X f (UR X f) := fun pins s σ H x v Q I r h => h pins s σ v I r
def CRr (X : Cx) (f : Value) : List V → Hp → VK → Prop := fun xs H Q => ∀ (pins : List (Addr × Obj)) (s : Shared) (σ : L2.St) (us : List Value), Inv X pins σ H s → Vals xs us → wpAny (model X.prog X.w) X.A (call f us) (EP X pins σ Q) X.xe s
theorem cr_ok {X : Cx} {f : Value} : CallR X f (CRr X f) := fun pins s σ H xs us Q I r h => h pins s σ us I r
def MR (X : Cx) (id : String) : V → List V → Hp → VK → Prop := fun x xs H Q => ∀ (pins : List (Addr × Obj)) (s : Shared) (σ : L2.St) (v : Value) (us : List Value), Inv X pins σ H s → RelV x v → Vals xs us → wpAny (model X.prog X.w) X.A (call (.builtin id) (v :: us)) (EP X pins σ Q) X.xe s
theorem mr_ok {X : Cx} {id : String} : MtR X id (MR X id) := fun pins s σ H x xs v us Q I r1 r2 h => h pins s σ v us I r1 r2

/-! ### what is wanted, at the level of data -/
def PO (K : PySem.W.Frag) (Hr : Hp) (P : W → Own → Prop) : VK := fun v H' => ∃ w O' Hr', P w O' ∧ Same Hr Hr' ∧ Sep K Hr' O' H' ∧ WOk K Hr' v w
def TQ (K : PySem.W.Frag) (Hr : Hp) (P : Bool → Own → Prop) : Bool → Hp → Prop := fun b H' => ∃ O' Hr', P b O' ∧ Same Hr Hr' ∧ Sep K Hr' O' H'
inductive WOks (K : PySem.W.Frag) (Hr : Hp) : List V → List W → Prop
  | nil : WOks K Hr [] []
  | cons {v : V} {w : W} {vs : List V} {ws : List W} : WOk K Hr v w → WOks K Hr vs ws → WOks K Hr (v :: vs) (w :: ws)
theorem WOks.mono {K : PySem.W.Frag} {Hr Hr' : Hp} (e : Same Hr Hr') : ∀ {vs : List V} {ws : List W}, WOks K Hr vs ws → WOks K Hr' vs ws
  | _, _, .nil => .nil
  | _, _, .cons a b => .cons (a.mono e) (WOks.mono e b)
theorem WOks.len {K : PySem.W.Frag} {Hr : Hp} : ∀ {vs : List V} {ws : List W}, WOks K Hr vs ws → vs.length = ws.length
  | _, _, .nil => rfl
  | _, _, .cons _ b => congrArg (· + 1) (WOks.len b)
theorem WOks.data {K : PySem.W.Frag} {Hr : Hp} : ∀ {ds : List PyData} {vs : List V}, WOks K Hr vs (ds.map W.d) → DvAll K Hr vs ds
  | [], _, h => by cases h; exact .nil
  | d :: ds, _, h => by
    cases h with
    | cons a b => exact .cons a (WOks.data b)
def AO (K : PySem.W.Frag) (Hr : Hp) (P : List W → Own → Prop) : List V → Hp → Prop := fun vs H' => ∃ ws O' Hr', P ws O' ∧ Same Hr Hr' ∧ Sep K Hr' O' H' ∧ WOks K Hr' vs ws

/-- e is evaluated where the slots hold τ and O is owned: P of what comes and of what is owned then -/
def DER (X : Cx) (τ : Tau) (O : Own) (e : Expr) (P : W → Own → Prop) : Prop :=
  ∀ (σ : L2.St) (Hr H : Hp) (Q : VK), En X.K Hr σ τ → Sep X.K Hr O H → (∀ v H', PO X.K Hr P v H' → Q v H') → te X e σ H Q
structure DE (X : Cx) (τ : Tau) (O : Own) (e : Expr) (P : W → Own → Prop) : Prop where
  go : DER X τ O e P
instance {X : Cx} {τ : Tau} {O : Own} {e : Expr} {P : W → Own → Prop} : CoeFun (DE X τ O e P) (fun _ => DER X τ O e P) := ⟨DE.go⟩
def DTR (X : Cx) (τ : Tau) (O : Own) (e : Expr) (P : Bool → Own → Prop) : Prop :=
  ∀ (σ : L2.St) (Hr H : Hp) (Q : Bool → Hp → Prop), En X.K Hr σ τ → Sep X.K Hr O H → (∀ v H', TQ X.K Hr P v H' → Q v H') → tt X e σ H Q
structure DT (X : Cx) (τ : Tau) (O : Own) (e : Expr) (P : Bool → Own → Prop) : Prop where
  go : DTR X τ O e P
instance {X : Cx} {τ : Tau} {O : Own} {e : Expr} {P : Bool → Own → Prop} : CoeFun (DT X τ O e P) (fun _ => DTR X τ O e P) := ⟨DT.go⟩
def DWhR (X : Cx) (τ : Tau) (O : Own) (e : Expr) (P : Bool → Own → Prop) : Prop :=
  ∀ (σ : L2.St) (Hr H : Hp) (Q : Bool → Hp → Prop), En X.K Hr σ τ → Sep X.K Hr O H → (∀ v H', TQ X.K Hr P v H' → Q v H') → tw X e σ H Q
structure DWh (X : Cx) (τ : Tau) (O : Own) (e : Expr) (P : Bool → Own → Prop) : Prop where
  go : DWhR X τ O e P
instance {X : Cx} {τ : Tau} {O : Own} {e : Expr} {P : Bool → Own → Prop} : CoeFun (DWh X τ O e P) (fun _ => DWhR X τ O e P) := ⟨DWh.go⟩
def DAR (X : Cx) (τ : Tau) (O : Own) (es : List Expr) (P : List W → Own → Prop) : Prop :=
  ∀ (σ : L2.St) (Hr H : Hp) (Q : List V → Hp → Prop), En X.K Hr σ τ → Sep X.K Hr O H → (∀ v H', AO X.K Hr P v H' → Q v H') → ta X es σ H Q
structure DA (X : Cx) (τ : Tau) (O : Own) (es : List Expr) (P : List W → Own → Prop) : Prop where
  go : DAR X τ O es P
instance {X : Cx} {τ : Tau} {O : Own} {es : List Expr} {P : List W → Own → Prop} : CoeFun (DA X τ O es P) (fun _ => DAR X τ O es P) := ⟨DA.go⟩
/-- by values -/
def BinDR (X : Cx) (f : Value → Value → Sem Value) (w1 w2 : W) (O : Own) (P : W → Own → Prop) : Prop :=
  ∀ (v1 v2 : V) (Hr H : Hp) (Q : VK), Sep X.K Hr O H → WOk X.K Hr v1 w1 → WOk X.K Hr v2 w2 → (∀ v H', PO X.K Hr P v H' → Q v H') → BR X f v1 v2 H Q
structure BinD (X : Cx) (f : Value → Value → Sem Value) (w1 w2 : W) (O : Own) (P : W → Own → Prop) : Prop where
  go : BinDR X f w1 w2 O P
instance {X : Cx} {f : Value → Value → Sem Value} {w1 w2 : W} {O : Own} {P : W → Own → Prop} : CoeFun (BinD X f w1 w2 O P) (fun _ => BinDR X f w1 w2 O P) := ⟨BinD.go⟩
def UnDR (X : Cx) (f : Value → Sem Value) (w : W) (O : Own) (P : W → Own → Prop) : Prop :=
  ∀ (v : V) (Hr H : Hp) (Q : VK), Sep X.K Hr O H → WOk X.K Hr v w → (∀ v H', PO X.K Hr P v H' → Q v H') → UR X f v H Q
structure UnD (X : Cx) (f : Value → Sem Value) (w : W) (O : Own) (P : W → Own → Prop) : Prop where
  go : UnDR X f w O P
instance {X : Cx} {f : Value → Sem Value} {w : W} {O : Own} {P : W → Own → Prop} : CoeFun (UnD X f w O P) (fun _ => UnDR X f w O P) := ⟨UnD.go⟩
def CallDR (X : Cx) (f : Value) (ws : List W) (O : Own) (P : W → Own → Prop) : Prop :=
  ∀ (vs : List V) (Hr H : Hp) (Q : VK), Sep X.K Hr O H → WOks X.K Hr vs ws → (∀ v H', PO X.K Hr P v H' → Q v H') → CRr X f vs H Q
structure CallD (X : Cx) (f : Value) (ws : List W) (O : Own) (P : W → Own → Prop) : Prop where
  go : CallDR X f ws O P
instance {X : Cx} {f : Value} {ws : List W} {O : Own} {P : W → Own → Prop} : CoeFun (CallD X f ws O P) (fun _ => CallDR X f ws O P) := ⟨CallD.go⟩
/-- a method of a built-in type: the receiver, the arguments -/
def MetDR (X : Cx) (T id : String) (w : W) (ws : List W) (O : Own) (P : W → Own → Prop) : Prop :=
  ∀ (v : V) (vs : List V) (Hr H : Hp) (Q : VK), Sep X.K Hr O H → WOk X.K Hr v w → WOks X.K Hr vs ws → (∀ v H', PO X.K Hr P v H' → Q v H') → MR X id v vs H Q
structure MetD (X : Cx) (T id : String) (w : W) (ws : List W) (O : Own) (P : W → Own → Prop) : Prop where
  go : MetDR X T id w ws O P
instance {X : Cx} {T id : String} {w : W} {ws : List W} {O : Own} {P : W → Own → Prop} : CoeFun (MetD X T id w ws O P) (fun _ => MetDR X T id w ws O P) := ⟨MetD.go⟩
def IxDR (X : Cx) (w1 w2 : W) (O : Own) (P : W → Own → Prop) : Prop :=
  ∀ (value slice : Expr) (v1 v2 : V) (Hr H : Hp) (Q : VK), Sep X.K Hr O H → WOk X.K Hr v1 w1 → WOk X.K Hr v2 w2 → (∀ v H', PO X.K Hr P v H' → Q v H') →
    ∀ (pins : List (Addr × Obj)) (s : Shared) (σ : L2.St) (v u : Value), Inv X pins σ H s → RelV v1 v → RelV v2 u → subscripted slice false v u = operate [v, u] (getItem v u) →
      wpAny (model X.prog X.w) X.A (subscriptTail value slice v u) (EP X pins σ Q) X.xe s

structure IxD (X : Cx) (w1 w2 : W) (O : Own) (P : W → Own → Prop) : Prop where
  go : IxDR X w1 w2 O P
instance {X : Cx} {w1 w2 : W} {O : Own} {P : W → Own → Prop} : CoeFun (IxD X w1 w2 O P) (fun _ => IxDR X w1 w2 O P) := ⟨IxD.go⟩
section
variable {X : Cx} {τ : Tau} {O : Own} {P : W → Own → Prop} {PB : Bool → Own → Prop} {a b c : Expr} {es rest : List Expr} {pos : Pos} {w w1 w2 : W}
theorem po_to {K : PySem.W.Frag} {Hr Hr' : Hp} (e : Same Hr Hr') {v : V} {H : Hp} (h : PO K Hr' P v H) : PO K Hr P v H := by
  obtain ⟨w, O', Hr2, h1, h2, h3, h4⟩ := h
  exact ⟨w, O', Hr2, h1, e.trans h2, h3, h4⟩
theorem to_to {K : PySem.W.Frag} {Hr Hr' : Hp} (e : Same Hr Hr') {v : Bool} {H : Hp} (h : TQ K Hr' PB v H) : TQ K Hr PB v H := by
  obtain ⟨O', Hr2, h1, h2, h3⟩ := h
  exact ⟨O', Hr2, h1, e.trans h2, h3⟩
theorem ao_to {K : PySem.W.Frag} {PA : List W → Own → Prop} {Hr Hr' : Hp} (e : Same Hr Hr') {v : List V} {H : Hp} (h : AO K Hr' PA v H) : AO K Hr PA v H := by
  obtain ⟨w, O', Hr2, h1, h2, h3, h4⟩ := h
  exact ⟨w, O', Hr2, h1, e.trans h2, h3, h4⟩
/-- the value is here, the heap as it is -/
theorem po_here {K : PySem.W.Frag} {Hr H : Hp} {v : V} (h : P w O) (S : Sep K Hr O H) (k : WOk K Hr v w) : PO K Hr P v H := ⟨w, O, Hr, h, Same.refl _, S, k⟩
/-- a new thing that stays -/
theorem po_new {K : PySem.W.Frag} {Hr H : Hp} {p : Addr} {o : HO} (h : P w O) (S : Sep K Hr O H) (hp : H p = none) (k : WOk K (upd Hr p o) (.ref p) w) : PO K Hr P (.ref p) (upd H p o) :=
  ⟨w, O, upd Hr p o, h, same_new (S.fresh hp).1, S.new hp, k⟩
theorem DE.mono {P' : W → Own → Prop} (h : DE X τ O a P) (q : ∀ w O', P w O' → P' w O') : DE X τ O a P' := ⟨fun σ Hr H Q hE hS hQ =>
  h σ Hr H Q hE hS fun v H' ⟨w, O', Hr', p, e, s, k⟩ => hQ v H' ⟨w, O', Hr', q w O' p, e, s, k⟩⟩
theorem DT.mono {P' : Bool → Own → Prop} (h : DT X τ O a PB) (q : ∀ w O', PB w O' → P' w O') : DT X τ O a P' := ⟨fun σ Hr H Q hE hS hQ =>
  h σ Hr H Q hE hS fun v H' ⟨O', Hr', p, e, s⟩ => hQ v H' ⟨O', Hr', q v O' p, e, s⟩⟩
/-! ### names, constants -/
theorem de_name (i : Nat) {x : Str} (ht : τ[i]? = some (some w)) (h : P w O) (hN : X.N[i]? = some x := by rfl) (hv : Vis X.env.scope x := by first | exact Or.inl rfl | exact Or.inr (Or.inl rfl) | exact Or.inr (Or.inr rfl))
    (hd : (x == ("__debug__" : Str)) = false := by decide) (hcd : (x == ("__classdict__" : Str)) = false := by decide) : DE X τ O (.Name x pos) P := by
  refine ⟨?_⟩
  intro σ Hr H Q hE hS hQ pins s I
  obtain ⟨v, hv1, hw⟩ := hE.at_ i w ht
  exact (pe_var hN hv hd hcd).run pins s σ H Q I ⟨v, hv1, hQ v H (po_here h hS hw)⟩
theorem de_glob {x : Str} {v : V} {u : Value} (hm : X.mg x = some u) (r : RelV v u) (hw : ∀ Hr, WOk X.K Hr v w) (h : P w O) (hg : Gl X x := by rfl) (hd : (x == ("__debug__" : Str)) = false := by decide) : DE X τ O (.Name x pos) P := ⟨fun σ Hr H Q hE hS hQ pins s I => (pe_glob hg hm r hd).run pins s σ H Q I (hQ v H (po_here h hS (hw Hr)))⟩
/-- a built-in type as a value -/
theorem de_ty {x : Str} {T : String} (hm : X.mg x = none) (hv : bootBuiltins x = some (.type T)) (h : P (.r (.ty T)) O) (hg : Gl X x := by rfl) (hn : x ≠ "__name__" := by decide) (hd : (x == ("__debug__" : Str)) = false := by decide) : DE X τ O (.Name x pos) P := ⟨fun σ Hr H Q hE hS hQ pins s I => (pe_bltn (v := .ty T) hg hm hv rfl hn hd).run pins s σ H Q I (hQ _ H (po_here h hS rfl))⟩
theorem de_int {i : Int} {j} (h : P (.d (.int i)) O) : DE X τ O (.Constant (.int i) j pos) P := ⟨fun σ Hr H Q hE hS hQ pins s I => pe_int.run pins s σ H Q I (hQ _ H (po_here h hS (.int i)))⟩
theorem de_str {i : Str} {j} (h : P (.d (.str i)) O) : DE X τ O (.Constant (.str i) j pos) P := ⟨fun σ Hr H Q hE hS hQ pins s I => pe_str.run pins s σ H Q I (hQ _ H (po_here h hS (.str i)))⟩
theorem de_bl {i : Bool} {j} (h : P (.d (.bool i)) O) : DE X τ O (.Constant (.bool i) j pos) P := ⟨fun σ Hr H Q hE hS hQ pins s I => pe_bl.run pins s σ H Q I (hQ _ H (po_here h hS (.bl i)))⟩
theorem de_non {j} (h : P (.d .none) O) : DE X τ O (.Constant .none j pos) P := ⟨fun σ Hr H Q hE hS hQ pins s I => pe_non.run pins s σ H Q I (hQ _ H (po_here h hS .non))⟩
/-! ### operators -/
theorem two {f : Value → Value → Sem Value} (ha : DE X τ O a fun w1 O1 => DE X τ O1 b fun w2 O2 => BinD X f w1 w2 O2 P) {σ : L2.St} {Hr H : Hp} {Q : VK} (hE : En X.K Hr σ τ) (hS : Sep X.K Hr O H) (hQ : ∀ v H', PO X.K Hr P v H' → Q v H') :
    te X a σ H fun x H1 => te X b σ H1 fun y H2 => BR X f x y H2 Q := by
  refine ha σ Hr H _ hE hS fun x H1 ⟨w1, O1, Hr1, h1, e1, s1, k1⟩ => ?_
  refine h1 σ Hr1 H1 _ (hE.mono e1) s1 fun y H2 ⟨w2, O2, Hr2, h2, e2, s2, k2⟩ => ?_
  exact h2 x y Hr2 H2 Q s2 (k1.mono e2) k2 fun v H' q => hQ v H' (po_to (e1.trans e2) q)
theorem de_bin {op : Operator} (h : DE X τ O a fun w1 O1 => DE X τ O1 b fun w2 O2 => BinD X (binaryOp op) w1 w2 O2 P) : DE X τ O (.BinOp a op b pos) P := ⟨fun σ Hr H Q hE hS hQ pins s I => (pe_op br_ok pe_te pe_te).run pins s σ H Q I (two h hE hS hQ)⟩
theorem de_un {op : UnaryOp} (h : DE X τ O a fun w O1 => UnD X (unaryOp op) w O1 P) : DE X τ O (.UnaryOp op a pos) P := ⟨fun σ Hr H Q hE hS hQ pins s I => (pe_un ur_ok pe_te).run pins s σ H Q I
    (h σ Hr H _ hE hS fun x H1 ⟨w1, O1, Hr1, h1, e1, s1, k1⟩ => h1 x Hr1 H1 Q s1 k1 fun v H' q => hQ v H' (po_to e1 q))⟩
theorem de_cmp {op : CmpOp} (h : DE X τ O a fun w1 O1 => DE X τ O1 b fun w2 O2 => BinD X (compareOp op) w1 w2 O2 P) (hm : behindInMarks op b = false := by first | exact nomark _ | rfl) : DE X τ O (.Compare a [op] [b] pos) P := ⟨fun σ Hr H Q hE hS hQ pins s I => (pe_cmpR br_ok pe_te pe_te hm).run pins s σ H Q I (two h hE hS hQ)⟩
/-- what is wanted of a truth value -/
def tb (P : Bool → Own → Prop) : W → Own → Prop
  | .d (.bool k), O => P k O
  | _, _ => False
theorem tb_of {K : PySem.W.Frag} {Hr : Hp} {v : V} {H : Hp} (h : PO K Hr (tb PB) v H) : ∃ k, v = .bl k ∧ TQ K Hr PB k H := by
  obtain ⟨w, O', Hr', p, e, s, k⟩ := h
  cases w with
  | r u => exact p.elim
  | s x => exact p.elim
  | d x =>
    cases x with
    | bool k' =>
      cases k
      exact ⟨k', rfl, O', Hr', p, e, s⟩
    | _ => exact p.elim
/-- a op1 b op2 c -/
theorem de_chain {op op' : CmpOp} (h : DE X τ O a fun w1 O1 => DE X τ O1 b fun w2 O2 => BinD X (compareOp op) w1 w2 O2 (tb fun k O3 => if k = true then DE X τ O3 c fun w3 O4 => BinD X (compareOp op') w2 w3 O4 P else P (.d (.bool false)) O3))
    (hm : lastMarks [op, op'] [b, c] = false := by with_unfolding_all rfl) : DE X τ O (.Compare a [op, op'] [b, c] pos) P := by
  refine ⟨?_⟩
  intro σ Hr H Q hE hS hQ pins s I
  refine (pe_chain br_ok br_ok pe_te pe_te pe_te hm).run pins s σ H Q I ?_
  refine h σ Hr H _ hE hS fun x H1 ⟨w1, O1, Hr1, h1, e1, s1, k1⟩ => ?_
  refine h1 σ Hr1 H1 _ (hE.mono e1) s1 fun y H2 ⟨w2, O2, Hr2, h2, e2, s2, k2⟩ => ?_
  refine h2 x y Hr2 H2 _ s2 (k1.mono e2) k2 fun v H3 q => ?_
  obtain ⟨k, rfl, O3, Hr3, p3, e3, s3⟩ := tb_of q
  refine ⟨k, rfl, ?_⟩
  cases k with
  | true =>
    rw [if_pos rfl]
    rw [if_pos rfl] at p3
    refine p3 σ Hr3 H3 _ (hE.mono ((e1.trans e2).trans e3)) s3 fun z H4 ⟨w3, O4, Hr4, h4, e4, s4, k4⟩ => ?_
    exact h4 y z Hr4 H4 Q s4 (k2.mono (e3.trans e4)) k4 fun v H' q => hQ v H' (po_to (((e1.trans e2).trans e3).trans e4) q)
  | false =>
    rw [if_neg Bool.false_ne_true]
    rw [if_neg Bool.false_ne_true] at p3
    exact hQ _ _ ⟨_, _, Hr3, p3, (e1.trans e2).trans e3, s3, .bl false⟩
/-- and, or, not as values -/
theorem de_one {op : BoolOp} (h : DE X τ O a P) : DE X τ O (.BoolOp op [a] pos) P := ⟨fun σ Hr H Q hE hS hQ pins s I => (pe_one pe_te).run pins s σ H Q I (h σ Hr H Q hE hS hQ)⟩
theorem de_and (h : DE X τ O a (tb fun k O1 => if k = true then DE X τ O1 (.BoolOp .And (b :: rest) pos) P else P (.d (.bool false)) O1)) : DE X τ O (.BoolOp .And (a :: b :: rest) pos) P := by
  refine ⟨?_⟩
  intro σ Hr H Q hE hS hQ pins s I
  refine (pe_and pe_te pe_te).run pins s σ H Q I ?_
  refine h σ Hr H _ hE hS fun v H1 q => ?_
  obtain ⟨k, rfl, O3, Hr3, p3, e3, s3⟩ := tb_of q
  refine ⟨k, rfl, ?_⟩
  cases k with
  | true => exact DE.go p3 σ Hr3 H1 Q (hE.mono e3) s3 fun v H' q => hQ v H' (po_to e3 q)
  | false => exact hQ _ _ ⟨_, _, Hr3, p3, e3, s3, .bl false⟩
theorem de_or (h : DE X τ O a (tb fun k O1 => if k = true then P (.d (.bool true)) O1 else DE X τ O1 (.BoolOp .Or (b :: rest) pos) P)) : DE X τ O (.BoolOp .Or (a :: b :: rest) pos) P := by
  refine ⟨?_⟩
  intro σ Hr H Q hE hS hQ pins s I
  refine (pe_or pe_te pe_te).run pins s σ H Q I ?_
  refine h σ Hr H _ hE hS fun v H1 q => ?_
  obtain ⟨k, rfl, O3, Hr3, p3, e3, s3⟩ := tb_of q
  refine ⟨k, rfl, ?_⟩
  cases k with
  | false => exact DE.go p3 σ Hr3 H1 Q (hE.mono e3) s3 fun v H' q => hQ v H' (po_to e3 q)
  | true => exact hQ _ _ ⟨_, _, Hr3, p3, e3, s3, .bl true⟩
theorem de_not (h : DE X τ O a (tb fun k O1 => P (.d (.bool (!k))) O1)) : DE X τ O (.UnaryOp .Not a pos) P := by
  refine ⟨?_⟩
  intro σ Hr H Q hE hS hQ pins s I
  refine (pe_not pe_te).run pins s σ H Q I ?_
  refine h σ Hr H _ hE hS fun v H1 q => ?_
  obtain ⟨k, rfl, O3, Hr3, p3, e3, s3⟩ := tb_of q
  exact ⟨k, rfl, hQ _ _ ⟨_, _, Hr3, p3, e3, s3, .bl _⟩⟩
theorem de_ifExp (h : DT X τ O c fun k O1 => if k = true then DE X τ O1 a P else DE X τ O1 b P) : DE X τ O (.IfExp c a b pos) P := by
  refine ⟨?_⟩
  intro σ Hr H Q hE hS hQ pins s I
  refine (pe_ifExp pt_tt pe_te pe_te).run pins s σ H Q I ?_
  refine h σ Hr H _ hE hS fun k H1 ⟨O1, Hr1, p1, e1, s1⟩ => ?_
  cases k with
  | true => exact DE.go p1 σ Hr1 H1 Q (hE.mono e1) s1 fun v H' q => hQ v H' (po_to e1 q)
  | false => exact DE.go p1 σ Hr1 H1 Q (hE.mono e1) s1 fun v H' q => hQ v H' (po_to e1 q)

/-! ### tests -/
theorem dt_val (h : DE X τ O a (tb PB)) (he : ∀ whole, isTrue a X.env whole = (do let v ← whole; standAt a.pos; holding [v] (truthy v)) := by intro _; rfl) : DT X τ O a PB := by
  refine ⟨?_⟩
  intro σ Hr H Q hE hS hQ pins s I
  refine (pt_val pe_te he).run pins s σ H Q I ?_
  refine h σ Hr H _ hE hS fun v H1 q => ?_
  obtain ⟨k, rfl, q5⟩ := tb_of q
  exact ⟨k, rfl, hQ _ _ q5⟩
theorem dt_cmp {op : CmpOp} (h : DE X τ O a fun w1 O1 => DE X τ O1 b fun w2 O2 => BinD X (compareOp op) w1 w2 O2 (tb PB)) (hm : behindInMarks op b = false := by first | exact nomark _ | rfl) : DT X τ O (.Compare a [op] [b] pos) PB := by
  refine ⟨?_⟩
  intro σ Hr H Q hE hS hQ pins s I
  refine (pt_cmpR br_ok pe_te pe_te hm).run pins s σ H Q I ?_
  refine two h hE hS fun v H1 q => ?_
  obtain ⟨k, rfl, q5⟩ := tb_of q
  exact ⟨k, rfl, hQ _ _ q5⟩
theorem dt_chain {op op' : CmpOp} (h : DE X τ O a fun w1 O1 => DE X τ O1 b fun w2 O2 => BinD X (compareOp op) w1 w2 O2 (tb fun k O3 => if k = true then DE X τ O3 c fun w3 O4 => BinD X (compareOp op') w2 w3 O4 (tb PB) else PB false O3))
    (hm : lastMarks [op, op'] [b, c] = false := by with_unfolding_all rfl) : DT X τ O (.Compare a [op, op'] [b, c] pos) PB := by
  refine ⟨?_⟩
  intro σ Hr H Q hE hS hQ pins s I
  refine (pt_chain br_ok br_ok pe_te pe_te pe_te hm).run pins s σ H Q I ?_
  refine h σ Hr H _ hE hS fun x H1 ⟨w1, O1, Hr1, h1, e1, s1, k1⟩ => ?_
  refine h1 σ Hr1 H1 _ (hE.mono e1) s1 fun y H2 ⟨w2, O2, Hr2, h2, e2, s2, k2⟩ => ?_
  refine h2 x y Hr2 H2 _ s2 (k1.mono e2) k2 fun v H3 q => ?_
  obtain ⟨k, rfl, O3, Hr3, p3, e3, s3⟩ := tb_of q
  refine ⟨k, rfl, ?_⟩
  cases k with
  | true =>
    rw [if_pos rfl]
    rw [if_pos rfl] at p3
    refine p3 σ Hr3 H3 _ (hE.mono ((e1.trans e2).trans e3)) s3 fun z H4 ⟨w3, O4, Hr4, h4, e4, s4, k4⟩ => ?_
    refine h4 y z Hr4 H4 _ s4 (k2.mono (e3.trans e4)) k4 fun v H' q => ?_
    obtain ⟨k, rfl, q5⟩ := tb_of q
    exact ⟨k, rfl, hQ _ _ (to_to (((e1.trans e2).trans e3).trans e4) q5)⟩
  | false =>
    rw [if_neg Bool.false_ne_true]
    rw [if_neg Bool.false_ne_true] at p3
    exact ⟨false, rfl, hQ _ _ ⟨_, Hr3, p3, (e1.trans e2).trans e3, s3⟩⟩
/-- the truth of a value that is no bool -/
def TrD (w : W) (O : Own) (PB : Bool → Own → Prop) : Prop := match w with
  | .d .none => PB false O
  | .d (.bool k) => PB k O
  | .d (.int i) => PB (i != 0) O
  | .d (.str y) => y.length ≤ sizeLine ∧ PB ((y.length : Int) != 0) O
  | .d (.list ds) => PB (!ds.isEmpty) O
  | .d (.tuple ds) => PB (!ds.isEmpty) O
  | _ => False
theorem isEmpty_dp {K : PySem.W.Frag} {H : Hp} {vs : List V} {ds : List PyData} (h : DvAll K H vs ds) : (!vs.isEmpty) = !ds.isEmpty := by
  cases h <;> rfl
theorem dt_truth (h : DE X τ O a fun w O1 => TrD w O1 PB) (he : ∀ whole, isTrue a X.env whole = (do let v ← whole; standAt a.pos; holding [v] (truthy v)) := by intro _; rfl) : DT X τ O a PB := by
  refine ⟨?_⟩
  intro σ Hr H Q hE hS hQ pins s I
  refine (pt_truth pe_te he).run pins s σ H Q I ?_
  refine h σ Hr H _ hE hS fun v H1 ⟨w, O1, Hr1, h1, e1, s1, k1⟩ => ?_
  cases w with
  | r u => exact h1.elim
  | s x => exact h1.elim
  | d x =>
    have k2 := dv_mono s1.ex k1
    cases k2 with
    | non => exact ⟨false, rfl, hQ _ _ ⟨O1, Hr1, h1, e1, s1⟩⟩
    | bl k => exact ⟨k, rfl, hQ _ _ ⟨O1, Hr1, h1, e1, s1⟩⟩
    | int i => exact ⟨_, rfl, hQ _ _ ⟨O1, Hr1, h1, e1, s1⟩⟩
    | str y => exact ⟨_, ⟨h1.1, rfl⟩, hQ _ _ ⟨O1, Hr1, h1.2, e1, s1⟩⟩
    | lst hl ha => exact ⟨_, .inl ⟨_, SqL.of hl, rfl⟩, hQ _ _ ⟨O1, Hr1, by rw [isEmpty_dp ha]; exact h1, e1, s1⟩⟩
    | tup hl ha => exact ⟨_, .inr (.inl ⟨_, hl, rfl⟩), hQ _ _ ⟨O1, Hr1, by rw [isEmpty_dp ha]; exact h1, e1, s1⟩⟩
theorem dt_not (h : DT X τ O a fun k O1 => PB (!k) O1) : DT X τ O (.UnaryOp .Not a pos) PB := by
  refine ⟨?_⟩
  intro σ Hr H Q hE hS hQ pins s I
  refine (pt_not pt_tt).run pins s σ H Q I ?_
  exact h σ Hr H _ hE hS fun k H1 ⟨O1, Hr1, p1, e1, s1⟩ => hQ _ _ ⟨O1, Hr1, p1, e1, s1⟩
theorem dt_w (h : DWh X τ O a PB) : DT X τ O a PB := ⟨fun σ Hr H Q hE hS hQ pins s I => (pw_tw.pt).run pins s σ H Q I (h σ Hr H Q hE hS hQ)⟩
theorem dw_and1 (h : DT X τ O a PB) : DWh X τ O (.BoolOp .And [a] pos) PB := ⟨fun σ Hr H Q hE hS hQ whole pins s I => (pw_and1 pt_tt).run whole pins s σ H Q I (h σ Hr H Q hE hS hQ)⟩
theorem dw_or1 (h : DT X τ O a PB) : DWh X τ O (.BoolOp .Or [a] pos) PB := ⟨fun σ Hr H Q hE hS hQ whole pins s I => (pw_or1 pt_tt).run whole pins s σ H Q I (h σ Hr H Q hE hS hQ)⟩
theorem dw_and (h : DT X τ O a fun k O1 => if k = true then DWh X τ O1 (.BoolOp .And (b :: rest) pos) PB else PB false O1) : DWh X τ O (.BoolOp .And (a :: b :: rest) pos) PB := by
  refine ⟨?_⟩
  intro σ Hr H Q hE hS hQ whole pins s I
  refine (pw_and pt_tt pw_tw).run whole pins s σ H Q I ?_
  refine h σ Hr H _ hE hS fun k H1 ⟨O1, Hr1, p1, e1, s1⟩ => ?_
  cases k with
  | true => exact DWh.go p1 σ Hr1 H1 Q (hE.mono e1) s1 fun v H' q => hQ v H' (to_to e1 q)
  | false => exact hQ _ _ ⟨O1, Hr1, p1, e1, s1⟩
theorem dw_or (h : DT X τ O a fun k O1 => if k = true then PB true O1 else DWh X τ O1 (.BoolOp .Or (b :: rest) pos) PB) : DWh X τ O (.BoolOp .Or (a :: b :: rest) pos) PB := by
  refine ⟨?_⟩
  intro σ Hr H Q hE hS hQ whole pins s I
  refine (pw_or pt_tt pw_tw).run whole pins s σ H Q I ?_
  refine h σ Hr H _ hE hS fun k H1 ⟨O1, Hr1, p1, e1, s1⟩ => ?_
  cases k with
  | false => exact DWh.go p1 σ Hr1 H1 Q (hE.mono e1) s1 fun v H' q => hQ v H' (to_to e1 q)
  | true => exact hQ _ _ ⟨O1, Hr1, p1, e1, s1⟩

/-! ### arguments, displays -/
theorem da_nil {PA : List W → Own → Prop} (h : PA [] O) : DA X τ O [] PA := ⟨fun σ Hr H Q hE hS hQ pos pins s I => pa_nil.run pos pins s σ H Q I (hQ _ _ ⟨[], O, Hr, h, Same.refl _, hS, .nil⟩)⟩
theorem da_cons {PA : List W → Own → Prop} (h : DE X τ O a fun w O1 => DA X τ O1 es fun ws O2 => PA (w :: ws) O2) (hs : starEach (a :: es) X.env = (false, eval a X.env) :: starEach es X.env := by rfl) : DA X τ O (a :: es) PA := by
  refine ⟨?_⟩
  intro σ Hr H Q hE hS hQ pos pins s I
  refine (pa_cons pe_te pa_ta hs).run pos pins s σ H Q I ?_
  refine h σ Hr H _ hE hS fun x H1 ⟨w1, O1, Hr1, h1, e1, s1, k1⟩ => ?_
  refine h1 σ Hr1 H1 _ (hE.mono e1) s1 fun ys H2 ⟨w2, O2, Hr2, h2, e2, s2, k2⟩ => ?_
  exact hQ _ _ ⟨_, O2, Hr2, h2, e1.trans e2, s2, .cons (k1.mono e2) k2⟩
/-- all of a list of what is known are data -/
def allD : List W → Option (List PyData)
  | [] => some []
  | .d x :: ws => match allD ws with
    | some r => some (x :: r)
    | none => none
  | .r _ :: _ => none
  | .s _ :: _ => none
theorem allD_ok {K : PySem.W.Frag} {Hr : Hp} : ∀ {ws : List W} {vs : List V} {ds : List PyData}, allD ws = some ds → WOks K Hr vs ws → DvAll K Hr vs ds
  | [], _, _, h, k => by cases h; cases k; exact .nil
  | .d x :: ws, _, ds, h, k => by
    cases k with
    | cons a b =>
      cases e : allD ws with
      | none =>
        simp only [allD, e] at h
        cases h
      | some es =>
        simp only [allD, e] at h
        cases h
        exact .cons a (allD_ok e b)
  | .r _ :: _, _, _, h, _ => by cases h
  | .s _ :: _, _, _, h, _ => by cases h
theorem de_tup {x1} (h : DA X τ O es fun ws O1 => ∃ ds, allD ws = some ds ∧ ds.length ≤ sizeLine ∧ P (.d (.tuple ds)) O1) : DE X τ O (.Tuple es x1 pos) P := by
  refine ⟨?_⟩
  intro σ Hr H Q hE hS hQ pins s I
  refine (pe_tup pa_ta).run pins s σ H Q I ?_
  refine h σ Hr H _ hE hS fun ys H2 ⟨ws, O2, Hr2, ⟨ds, h1, h2, h3⟩, e2, s2, k2⟩ => ?_
  have hd := allD_ok h1 k2
  refine ⟨by rw [hd.len]; exact h2, fun p hp => hQ _ _ (po_to e2 (po_new h3 s2 hp (.tup (SqT.of upd_same) (dvAll_mono (same_new (s2.fresh hp).1) hd))))⟩
theorem de_lst (h : DA X τ O es fun ws O1 => ∃ ds, allD ws = some ds ∧ ds.length ≤ sizeLine ∧ P (.d (.list ds)) O1) : DE X τ O (.List es pos) P := by
  refine ⟨?_⟩
  intro σ Hr H Q hE hS hQ pins s I
  refine (pe_lst pa_ta).run pins s σ H Q I ?_
  refine h σ Hr H _ hE hS fun ys H2 ⟨ws, O2, Hr2, ⟨ds, h1, h2, h3⟩, e2, s2, k2⟩ => ?_
  have hd := allD_ok h1 k2
  refine ⟨by rw [hd.len]; exact h2, fun p hp => hQ _ _ (po_to e2 (po_new h3 s2 hp (.lst upd_same (dvAll_mono (same_new (s2.fresh hp).1) hd))))⟩
/-- a list that is owned, to be written later -/
theorem de_lstO (h : DA X τ O es fun ws O1 => ∃ ds, allD ws = some ds ∧ ds.length ≤ sizeLine ∧ ∀ p, P (.r (.ref p)) ((p, .l ds) :: O1)) : DE X τ O (.List es pos) P := by
  refine ⟨?_⟩
  intro σ Hr H Q hE hS hQ pins s I
  refine (pe_lst pa_ta).run pins s σ H Q I ?_
  refine h σ Hr H _ hE hS fun ys H2 ⟨ws, O2, Hr2, ⟨ds, h1, h2, h3⟩, e2, s2, k2⟩ => ?_
  have hd := allD_ok h1 k2
  refine ⟨by rw [hd.len]; exact h2, fun p hp => hQ _ _ ⟨_, _, Hr2, h3 p, e2, s2.newOwn hp ⟨ys, upd_same, hd⟩, rfl⟩⟩

/-! ### calls of built-in functions and types, methods -/
theorem de_callB (id : String) {x : Str} {p : Pos} {e : Expr} (hm : X.mg x = none) (hv : bootBuiltins x = some (.builtin id)) (h : DA X τ O (e :: es) fun ws O1 => CallD X (.builtin id) ws O1 P) (hg : Gl X x := by rfl) (hn : x ≠ "__name__" := by decide)
    (hdb : (x == ("__debug__" : Str)) = false := by decide) (he : starEach (e :: es) X.env = (false, eval e X.env) :: starEach es X.env := by rfl) (hpl : (backTo pos (starEach es X.env)).any (·.1) = false := by rfl) : DE X τ O (.Call (.Name x p) (e :: es) [] pos) P := ⟨fun σ Hr H Q hE hS hQ pins s I => (pe_callB cr_ok hg hm hv pa_ta hn hdb he hpl).run pins s σ H Q I
    (h σ Hr H _ hE hS fun ys H2 ⟨ws, O2, Hr2, h1, e2, s2, k2⟩ => h1 ys Hr2 H2 Q s2 k2 fun v H' q => hQ v H' (po_to e2 q))⟩
theorem de_callTy (T : String) {x : Str} {p : Pos} {e : Expr} (hm : X.mg x = none) (hv : bootBuiltins x = some (.type T)) (h : DA X τ O (e :: es) fun ws O1 => CallD X (.type T) ws O1 P) (hg : Gl X x := by rfl) (hn : x ≠ "__name__" := by decide)
    (hdb : (x == ("__debug__" : Str)) = false := by decide) (he : starEach (e :: es) X.env = (false, eval e X.env) :: starEach es X.env := by rfl) (hpl : (backTo pos (starEach es X.env)).any (·.1) = false := by rfl) : DE X τ O (.Call (.Name x p) (e :: es) [] pos) P := ⟨fun σ Hr H Q hE hS hQ pins s I => (pe_callTy cr_ok hg hm hv pa_ta hn hdb he hpl).run pins s σ H Q I
    (h σ Hr H _ hE hS fun ys H2 ⟨ws, O2, Hr2, h1, e2, s2, k2⟩ => h1 ys Hr2 H2 Q s2 k2 fun v H' q => hQ v H' (po_to e2 q))⟩
theorem de_ix (h : DE X τ O a fun w1 O1 => DE X τ O1 b fun w2 O2 => IxD X w1 w2 O2 P) (hs : PlainIx b := by exact fun _ _ => rfl) : DE X τ O (.Subscript a b pos) P := by
  refine ⟨?_⟩
  intro σ Hr H Q hE hS hQ pins s I
  refine (pe_ix (r := fun x y H Q => ∀ (value slice : Expr) (pins : List (Addr × Obj)) (s : Shared) (σ : L2.St) (v u : Value), Inv X pins σ H s → RelV x v → RelV y u → subscripted slice false v u = operate [v, u] (getItem v u) →
      wpAny (model X.prog X.w) X.A (subscriptTail value slice v u) (EP X pins σ Q) X.xe s) (fun value slice pins s σ H x y v u Q I r1 r2 h hs => h value slice pins s σ v u I r1 r2 hs) pe_te pe_te hs).run pins s σ H Q I ?_
  refine h σ Hr H _ hE hS fun x H1 ⟨w1, O1, Hr1, h1, e1, s1, k1⟩ => ?_
  refine h1 σ Hr1 H1 _ (hE.mono e1) s1 fun y H2 ⟨w2, O2, Hr2, h2, e2, s2, k2⟩ => ?_
  intro value slice pins s σ v u I r1 r2 hs
  exact h2 value slice x y Hr2 H2 Q s2 (k1.mono e2) k2 (fun v H' q => hQ v H' (po_to (e1.trans e2) q)) pins s σ v u I r1 r2 hs
end
end DL

set_option Elab.async false
set_option linter.all false
set_option maxRecDepth 100000
set_option maxHeartbeats 2000000
namespace DL
open PySem PySem.Spec PyProof.Rows L2

section
variable {X : Cx} {O : Own} {P : W → Own → Prop} {w w1 w2 : W}
theorem bind_of {f : Value → Value → Sem Value} {r : R2} (ho : OpR X f r)
    (k : ∀ (v1 v2 : V) (Hr H : Hp) (Q : VK), Sep X.K Hr O H → WOk X.K Hr v1 w1 → WOk X.K Hr v2 w2 → (∀ v H', PO X.K Hr P v H' → Q v H') → r v1 v2 H Q) : BinD X f w1 w2 O P := ⟨fun v1 v2 Hr H Q hS h1 h2 hQ pins s σ v u I r1 r2 => ho pins s σ H v1 v2 v u Q I r1 r2 (k v1 v2 Hr H Q hS h1 h2 hQ)⟩
theorem und_of {f : Value → Sem Value} {r : V → Hp → VK → Prop} (ho : UnR X f r)
    (k : ∀ (v1 : V) (Hr H : Hp) (Q : VK), Sep X.K Hr O H → WOk X.K Hr v1 w → (∀ v H', PO X.K Hr P v H' → Q v H') → r v1 H Q) : UnD X f w O P := ⟨fun v1 Hr H Q hS h1 hQ pins s σ v I r1 => ho pins s σ H v1 v Q I r1 (k v1 Hr H Q hS h1 hQ)⟩
theorem calld_of {f : Value} {ws : List W} {r : List V → Hp → VK → Prop} (ho : CallR X f r)
    (k : ∀ (vs : List V) (Hr H : Hp) (Q : VK), Sep X.K Hr O H → WOks X.K Hr vs ws → (∀ v H', PO X.K Hr P v H' → Q v H') → r vs H Q) : CallD X f ws O P := ⟨fun vs Hr H Q hS h1 hQ pins s σ us I r1 => ho pins s σ H vs us Q I r1 (k vs Hr H Q hS h1 hQ)⟩
theorem metd_of {T id : String} {ws : List W} {r : V → List V → Hp → VK → Prop} (ho : MtR X id r)
    (k : ∀ (v : V) (vs : List V) (Hr H : Hp) (Q : VK), Sep X.K Hr O H → WOk X.K Hr v w → WOks X.K Hr vs ws → (∀ v H', PO X.K Hr P v H' → Q v H') → r v vs H Q) : MetD X T id w ws O P := ⟨fun v vs Hr H Q hS h0 h1 hQ pins s σ u us I r0 r1 => ho pins s σ H v vs u us Q I r0 r1 (k v vs Hr H Q hS h0 h1 hQ)⟩
theorem ixd_of {r : R2} (ho : IxR X r)
    (k : ∀ (v1 v2 : V) (Hr H : Hp) (Q : VK), Sep X.K Hr O H → WOk X.K Hr v1 w1 → WOk X.K Hr v2 w2 → (∀ v H', PO X.K Hr P v H' → Q v H') → r v1 v2 H Q) : IxD X w1 w2 O P := ⟨fun value slice v1 v2 Hr H Q hS h1 h2 hQ pins s σ v u I r1 r2 hs => ho value slice pins s σ H v1 v2 v u Q I r1 r2 (k v1 v2 Hr H Q hS h1 h2 hQ) hs⟩
/-! ### ints -/
theorem b_I0 {f : Value → Value → Sem Value} {g : Int → Int → V} {d : PyData} {i j : Int} (ho : OpR X f (rI0 g)) (hd : ∀ Hr, Dv X.K Hr (g i j) d) (h : P (.d d) O) : BinD X f (.d (.int i)) (.d (.int j)) O P :=
  bind_of ho fun v1 v2 Hr H Q hS h1 h2 hQ => by
    cases h1
    cases h2
    exact ⟨i, j, rfl, rfl, hQ _ _ (po_here h hS (hd Hr))⟩
theorem b_I {f : Value → Value → Sem Value} {C : Int → Int → Prop} {g : Int → Int → V} {d : PyData} {i j : Int} (ho : OpR X f (rI C g)) (hc : C i j) (hd : ∀ Hr, Dv X.K Hr (g i j) d) (h : P (.d d) O) : BinD X f (.d (.int i)) (.d (.int j)) O P :=
  bind_of ho fun v1 v2 Hr H Q hS h1 h2 hQ => by
    cases h1
    cases h2
    exact ⟨i, j, rfl, rfl, hc, hQ _ _ (po_here h hS (hd Hr))⟩
theorem b_add {i j : Int} (h : P (.d (.int (i + j))) O) : BinD X (binaryOp .Add) (.d (.int i)) (.d (.int j)) O P := b_I0 op_add (fun _ => .int _) h
theorem b_sub {i j : Int} (h : P (.d (.int (i - j))) O) : BinD X (binaryOp .Sub) (.d (.int i)) (.d (.int j)) O P := b_I0 op_sub (fun _ => .int _) h
theorem cmul_r {i j : Int} (h : j.natAbs < 18446744073709551616) : CMul i j := Or.inr ⟨by omega, by omega⟩
theorem cmul_l {i j : Int} (h : i.natAbs < 18446744073709551616) : CMul i j := Or.inl ⟨by omega, by omega⟩
theorem b_mul {i j : Int} (hc : CMul i j) (h : P (.d (.int (i * j))) O) : BinD X (binaryOp .Mult) (.d (.int i)) (.d (.int j)) O P := b_I op_mul hc (fun _ => .int _) h
theorem cdivw {i j : Int} (h : 0 < j) (hj : j.natAbs < 2 ^ 8000) : CDivW i j := wide_div h hj (by decide) (by decide)
theorem b_fdiv {i j : Int} (hc : CDivW i j) (h : P (.d (.int (i / j))) O) : BinD X (binaryOp .FloorDiv) (.d (.int i)) (.d (.int j)) O P := b_I op_fdivW hc (fun _ => .int _) h
theorem b_mod {i j : Int} (hc : 0 < j) (h : P (.d (.int (i % j))) O) : BinD X (binaryOp .Mod) (.d (.int i)) (.d (.int j)) O P := b_I op_mod hc (fun _ => .int _) h
theorem b_pow {i j : Int} (hc : CPow i j) (h : P (.d (.int (i ^ j.toNat))) O) : BinD X (binaryOp .Pow) (.d (.int i)) (.d (.int j)) O P := b_I op_pow hc (fun _ => .int _) h
theorem u_neg {i : Int} (h : P (.d (.int (-i))) O) : UnD X (unaryOp .USub) (.d (.int i)) O P := und_of un_neg fun v Hr H Q hS h1 hQ => by
  cases h1
  exact ⟨i, rfl, hQ _ _ (po_here h hS (.int _))⟩
theorem b_lt {i j : Int} (h : P (.d (.bool (decide (i < j)))) O) : BinD X (compareOp .Lt) (.d (.int i)) (.d (.int j)) O P := b_I0 op_lt (fun _ => .bl _) h
theorem b_le {i j : Int} (h : P (.d (.bool (decide (i ≤ j)))) O) : BinD X (compareOp .LtE) (.d (.int i)) (.d (.int j)) O P := b_I0 op_le (fun _ => .bl _) h
theorem b_gt {i j : Int} (h : P (.d (.bool (decide (j < i)))) O) : BinD X (compareOp .Gt) (.d (.int i)) (.d (.int j)) O P := b_I0 op_gt (fun _ => .bl _) h
theorem b_ge {i j : Int} (h : P (.d (.bool (decide (j ≤ i)))) O) : BinD X (compareOp .GtE) (.d (.int i)) (.d (.int j)) O P := b_I0 op_ge (fun _ => .bl _) h

/-! ### == and in -/
/-- an owned list, or data: what is read -/
def RdW (w : W) (O : Own) (d : PyData) : Prop := w = .d d ∨ w = .s d ∨ ∃ (p : Addr) (j : Nat) (ds : List PyData), w = .r (.ref p) ∧ O[j]? = some (p, Cell.l ds) ∧ d = .list ds
theorem RdW.dp {K : PySem.W.Frag} {Hr H : Hp} {v : V} {d : PyData} (r : RdW w O d) (S : Sep K Hr O H) (k : WOk K Hr v w) : Dp K H v d := by
  rcases r with rfl | rfl | ⟨p, j, ds, rfl, hj, rfl⟩
  · exact (dv_mono S.ex k).dp
  · exact dp_mono S.ex k
  · cases k
    obtain ⟨vs, h1, h2⟩ := S.cell hj
    exact .lst (SqL.of h1) (dvAll_mono S.ex h2).dp
/-- .. a list that is tracked -/
def RdL (w : W) (O : Own) (ds : List PyData) : Prop := w = .d (.list ds) ∨ ∃ (p : Addr) (j : Nat), w = .r (.ref p) ∧ O[j]? = some (p, Cell.l ds)
theorem RdL.at {K : PySem.W.Frag} {Hr H : Hp} {v : V} {ds : List PyData} (r : RdL w O ds) (S : Sep K Hr O H) (k : WOk K Hr v w) : ∃ p vs, v = .ref p ∧ H p = some (.lst vs) ∧ DvAll K Hr vs ds := by
  rcases r with rfl | ⟨p, j, rfl, hj⟩
  · cases k with
    | lst h a => exact ⟨_, _, rfl, S.ex _ _ h, a⟩
  · cases k
    obtain ⟨vs, h1, h2⟩ := S.cell hj
    exact ⟨_, _, rfl, h1, h2⟩
theorem rdl {ds : List PyData} : RdL (.d (.list ds)) O ds := .inl rfl
theorem rdlo {p : Addr} (j : Nat) {ds : List PyData} (h : O[j]? = some (p, .l ds)) : RdL (.r (.ref p)) O ds := .inr ⟨p, j, rfl, h⟩
theorem rdw {d : PyData} : RdW (.d d) O d := .inl rfl
theorem rds {d : PyData} : RdW (.s d) O d := .inr (.inl rfl)
theorem rdo {p : Addr} (j : Nat) {ds : List PyData} (h : O[j]? = some (p, .l ds)) : RdW (.r (.ref p)) O (.list ds) := .inr (.inr ⟨p, j, ds, rfl, h, rfl⟩)
theorem b_eqR {d e : PyData} (hu : X.A.units + 64 < cLine) (r1 : RdW w1 O d) (r2 : RdW w2 O e) (hd : SeqAt.shaped d = true) (he : SeqAt.shaped e = true) (h : P (.d (.bool (PyData.eqv d e))) O) : BinD X (compareOp .Eq) w1 w2 O P :=
  bind_of (op_eqD hu) fun v1 v2 Hr H Q hS h1 h2 hQ => ⟨d, e, r1.dp hS h1, r2.dp hS h2, hd, he, hQ _ _ (po_here h hS (.bl _))⟩
theorem b_neR {d e : PyData} (hu : X.A.units + 64 < cLine) (r1 : RdW w1 O d) (r2 : RdW w2 O e) (hd : SeqAt.shaped d = true) (he : SeqAt.shaped e = true) (h : P (.d (.bool (!PyData.eqv d e))) O) : BinD X (compareOp .NotEq) w1 w2 O P :=
  bind_of (op_neD hu) fun v1 v2 Hr H Q hS h1 h2 hQ => ⟨d, e, r1.dp hS h1, r2.dp hS h2, hd, he, hQ _ _ (po_here h hS (.bl _))⟩
theorem b_eq {d e : PyData} (hu : X.A.units + 64 < cLine) (hd : SeqAt.shaped d = true) (he : SeqAt.shaped e = true) (h : P (.d (.bool (PyData.eqv d e))) O) : BinD X (compareOp .Eq) (.d d) (.d e) O P := b_eqR hu rdw rdw hd he h
theorem b_ne {d e : PyData} (hu : X.A.units + 64 < cLine) (hd : SeqAt.shaped d = true) (he : SeqAt.shaped e = true) (h : P (.d (.bool (!PyData.eqv d e))) O) : BinD X (compareOp .NotEq) (.d d) (.d e) O P := b_neR hu rdw rdw hd he h
/-- scalars: no size asked -/
def scD : PyData → Bool
  | .none | .bool _ | .int _ | .str _ => true
  | _ => false
theorem b_eqI {i j : Int} (h : P (.d (.bool (decide (i = j)))) O) : BinD X (compareOp .Eq) (.d (.int i)) (.d (.int j)) O P :=
  bind_of op_eq fun v1 v2 Hr H Q hS h1 h2 hQ => by
    cases h1
    cases h2
    refine ⟨rfl, hQ _ _ (po_here (w := .d (.bool (decide (i = j)))) h hS ?_)⟩
    have e : decide (V.int i = V.int j) = decide (i = j) := by simp
    rw [e]
    exact .bl _
theorem b_neI {i j : Int} (h : P (.d (.bool (!decide (i = j)))) O) : BinD X (compareOp .NotEq) (.d (.int i)) (.d (.int j)) O P :=
  bind_of op_ne fun v1 v2 Hr H Q hS h1 h2 hQ => by
    cases h1
    cases h2
    refine ⟨rfl, hQ _ _ (po_here (w := .d (.bool (!decide (i = j)))) h hS ?_)⟩
    have e : decide (V.int i = V.int j) = decide (i = j) := by simp
    rw [e]
    exact .bl _
theorem b_eqS {i j : Str} (h : P (.d (.bool (decide (i = j)))) O) : BinD X (compareOp .Eq) (.d (.str i)) (.d (.str j)) O P :=
  bind_of op_eq fun v1 v2 Hr H Q hS h1 h2 hQ => by
    cases h1
    cases h2
    refine ⟨rfl, hQ _ _ (po_here (w := .d (.bool (decide (i = j)))) h hS ?_)⟩
    have e : decide (V.str i = V.str j) = decide (i = j) := by simp
    rw [e]
    exact .bl _
theorem b_neS {i j : Str} (h : P (.d (.bool (!decide (i = j)))) O) : BinD X (compareOp .NotEq) (.d (.str i)) (.d (.str j)) O P :=
  bind_of op_ne fun v1 v2 Hr H Q hS h1 h2 hQ => by
    cases h1
    cases h2
    refine ⟨rfl, hQ _ _ (po_here (w := .d (.bool (!decide (i = j)))) h hS ?_)⟩
    have e : decide (V.str i = V.str j) = decide (i = j) := by simp
    rw [e]
    exact .bl _
theorem b_eqB {i j : Bool} (h : P (.d (.bool (decide (i = j)))) O) : BinD X (compareOp .Eq) (.d (.bool i)) (.d (.bool j)) O P :=
  bind_of op_eq fun v1 v2 Hr H Q hS h1 h2 hQ => by
    cases h1
    cases h2
    refine ⟨rfl, hQ _ _ (po_here (w := .d (.bool (decide (i = j)))) h hS ?_)⟩
    have e : decide (V.bl i = V.bl j) = decide (i = j) := by simp
    rw [e]
    exact .bl _
theorem b_neB {i j : Bool} (h : P (.d (.bool (!decide (i = j)))) O) : BinD X (compareOp .NotEq) (.d (.bool i)) (.d (.bool j)) O P :=
  bind_of op_ne fun v1 v2 Hr H Q hS h1 h2 hQ => by
    cases h1
    cases h2
    refine ⟨rfl, hQ _ _ (po_here (w := .d (.bool (!decide (i = j)))) h hS ?_)⟩
    have e : decide (V.bl i = V.bl j) = decide (i = j) := by simp
    rw [e]
    exact .bl _
/-- is None -/
def isNone : PyData → Bool
  | .none => true
  | _ => false
theorem dp_isNone {K : PySem.W.Frag} {H : Hp} {v : V} {d : PyData} (h : Dv K H v d) : decide (v = .non) = isNone d := by
  cases h <;> simp [isNone]
theorem b_isN {d : PyData} (h : P (.d (.bool (isNone d))) O) : BinD X (compareOp .Is) (.d d) (.d .none) O P :=
  bind_of op_isN fun v1 v2 Hr H Q hS h1 h2 hQ => by
    cases h2
    refine ⟨rfl, hQ _ _ (po_here h hS ?_)⟩
    rw [dp_isNone h1]
    exact .bl _
theorem b_isNn {d : PyData} (h : P (.d (.bool (!isNone d))) O) : BinD X (compareOp .IsNot) (.d d) (.d .none) O P :=
  bind_of op_notN fun v1 v2 Hr H Q hS h1 h2 hQ => by
    cases h2
    refine ⟨rfl, hQ _ _ (po_here h hS ?_)⟩
    rw [dp_isNone h1]
    exact .bl _
/-- x in xs, xs a list of data of any depth -/
theorem b_inL {d : PyData} {ds : List PyData} (hu : X.A.units + 65 < cLine) (r1 : RdW w1 O d) (r2 : RdW w2 O (.list ds)) (hd : SeqAt.shaped d = true) (he : SeqAt.shaped (.list ds) = true) (h : P (.d (.bool (ds.any fun z => PyData.eqv z d))) O) : BinD X (compareOp .In) w1 w2 O P :=
  bind_of (op_inD hu) fun v1 v2 Hr H Q hS h1 h2 hQ => ⟨d, ds, r1.dp hS h1, r2.dp hS h2, hd, he, hQ _ _ (po_here h hS (.bl _))⟩
theorem b_niL {d : PyData} {ds : List PyData} (hu : X.A.units + 65 < cLine) (r1 : RdW w1 O d) (r2 : RdW w2 O (.list ds)) (hd : SeqAt.shaped d = true) (he : SeqAt.shaped (.list ds) = true) (h : P (.d (.bool (!ds.any fun z => PyData.eqv z d))) O) : BinD X (compareOp .NotIn) w1 w2 O P :=
  bind_of (op_notInD hu) fun v1 v2 Hr H Q hS h1 h2 hQ => ⟨d, ds, r1.dp hS h1, r2.dp hS h2, hd, he, hQ _ _ (po_here h hS (.bl _))⟩
/-- x in xs, flat items, a list or a tuple -/
def flD : PyData → Bool
  | .none | .bool _ | .int _ | .str _ => true
  | _ => false
theorem flat_dp {K : PySem.W.Frag} {H : Hp} {v : V} {d : PyData} (h : Dv K H v d) (f : flD d = true) : flatV v = true := by
  cases h <;> first | rfl | cases f
theorem flatAll_dp {K : PySem.W.Frag} {H : Hp} : ∀ {vs : List V} {ds : List PyData}, DvAll K H vs ds → ds.all flD = true → vs.all flatV = true
  | _, _, .nil, _ => rfl
  | _, _, .cons a b, h => by
    rw [List.all_cons, Bool.and_eq_true] at h ⊢
    exact ⟨flat_dp a h.1, flatAll_dp b h.2⟩
theorem eqV_dp {K : PySem.W.Frag} {H : Hp} {v u : V} {d e : PyData} (h : Dv K H v d) (g : Dv K H u e) (f : flD d = true) (f2 : flD e = true) : eqV v u = PyData.eqv d e := by
  cases h <;> cases g <;> first | rfl | (cases f; done) | (cases f2; done)
theorem inV_dp {K : PySem.W.Frag} {H : Hp} {u : V} {e : PyData} (g : Dv K H u e) (f2 : flD e = true) : ∀ {vs : List V} {ds : List PyData}, DvAll K H vs ds → ds.all flD = true → inV u vs = ds.any fun z => PyData.eqv z e
  | _, _, .nil, _ => rfl
  | _, _, .cons a b, h => by
    rw [List.all_cons, Bool.and_eq_true] at h
    have ih := inV_dp g f2 b h.2
    unfold inV at ih ⊢
    rw [List.any_cons, List.any_cons, ih, eqV_dp a g h.1 f2]
theorem b_inT {d : PyData} {ds : List PyData} (hd : flD d = true) (he : ds.all flD = true) (h : P (.d (.bool (ds.any fun z => PyData.eqv z d))) O) : BinD X (compareOp .In) (.d d) (.d (.tuple ds)) O P :=
  bind_of op_in_seq fun v1 v2 Hr H Q hS h1 h2 hQ => by
    cases h2 with
    | tup hl ha =>
      refine ⟨_, _, rfl, .inr (same_t hS.ex hl), flat_dp h1 hd, flatAll_dp ha he, hQ _ _ (po_here h hS ?_)⟩
      rw [if_neg Bool.false_ne_true, inV_dp h1 hd ha he]
      exact .bl _
theorem b_niT {d : PyData} {ds : List PyData} (hd : flD d = true) (he : ds.all flD = true) (h : P (.d (.bool (!ds.any fun z => PyData.eqv z d))) O) : BinD X (compareOp .NotIn) (.d d) (.d (.tuple ds)) O P :=
  bind_of op_notIn_seq fun v1 v2 Hr H Q hS h1 h2 hQ => by
    cases h2 with
    | tup hl ha =>
      refine ⟨_, _, rfl, .inr (same_t hS.ex hl), flat_dp h1 hd, flatAll_dp ha he, hQ _ _ (po_here h hS ?_)⟩
      rw [if_pos rfl, inV_dp h1 hd ha he]
      exact .bl _
theorem b_inF {d : PyData} {ds : List PyData} (hd : flD d = true) (he : ds.all flD = true) (h : P (.d (.bool (ds.any fun z => PyData.eqv z d))) O) : BinD X (compareOp .In) (.d d) (.d (.list ds)) O P :=
  bind_of op_in_seq fun v1 v2 Hr H Q hS h1 h2 hQ => by
    cases h2 with
    | lst hl ha =>
      refine ⟨_, _, rfl, .inl (SqL.of (hS.ex _ _ hl)), flat_dp h1 hd, flatAll_dp ha he, hQ _ _ (po_here h hS ?_)⟩
      rw [if_neg Bool.false_ne_true, inV_dp h1 hd ha he]
      exact .bl _
theorem b_niF {d : PyData} {ds : List PyData} (hd : flD d = true) (he : ds.all flD = true) (h : P (.d (.bool (!ds.any fun z => PyData.eqv z d))) O) : BinD X (compareOp .NotIn) (.d d) (.d (.list ds)) O P :=
  bind_of op_notIn_seq fun v1 v2 Hr H Q hS h1 h2 hQ => by
    cases h2 with
    | lst hl ha =>
      refine ⟨_, _, rfl, .inl (SqL.of (hS.ex _ _ hl)), flat_dp h1 hd, flatAll_dp ha he, hQ _ _ (po_here h hS ?_)⟩
      rw [if_pos rfl, inV_dp h1 hd ha he]
      exact .bl _
/-- one sign in a text -/
theorem b_inS {c : Nat} {z : Str} (h : P (.d (.bool (decide (c ∈ z.cps.toList)))) O) : BinD X (compareOp .In) (.d (.str ⟨#[c]⟩)) (.d (.str z)) O P :=
  bind_of op_in_sign fun v1 v2 Hr H Q hS h1 h2 hQ => by
    cases h1
    cases h2
    exact ⟨c, z, rfl, rfl, hQ _ _ (po_here h hS (.bl _))⟩
theorem b_niS {c : Nat} {z : Str} (h : P (.d (.bool (!decide (c ∈ z.cps.toList)))) O) : BinD X (compareOp .NotIn) (.d (.str ⟨#[c]⟩)) (.d (.str z)) O P :=
  bind_of op_notIn_sign fun v1 v2 Hr H Q hS h1 h2 hQ => by
    cases h1
    cases h2
    exact ⟨c, z, rfl, rfl, hQ _ _ (po_here h hS (.bl _))⟩

/-! ### texts, tuples, lists together -/
theorem b_addS {x y : Str} (hl : x.length + y.length ≤ sizeLine) (h : P (.d (.str (x ++ y))) O) : BinD X (binaryOp .Add) (.d (.str x)) (.d (.str y)) O P :=
  bind_of op_add_str fun v1 v2 Hr H Q hS h1 h2 hQ => by
    cases h1
    cases h2
    exact ⟨x, y, rfl, rfl, hl, hQ _ _ (po_here h hS (.str _))⟩
theorem b_addT {ds es : List PyData} (hl : ds.length + es.length ≤ sizeLine) (h : P (.d (.tuple (ds ++ es))) O) : BinD X (binaryOp .Add) (.d (.tuple ds)) (.d (.tuple es)) O P :=
  bind_of op_catA fun v1 v2 Hr H Q hS h1 h2 hQ => by
    cases h1 with
    | tup k1 a1 =>
      cases h2 with
      | tup k2 a2 =>
        refine ⟨_, _, _, _, rfl, rfl, same_t hS.ex k1, same_t hS.ex k2, by rw [a1.len, a2.len]; exact hl, fun e => ?_, fun e e2 => ?_, fun e e2 p hp => ?_⟩
        · have q := a1.nil_iff.mp e
          subst q
          exact hQ _ _ (po_here h hS (.tup k2 a2))
        · have q := a2.nil_iff.mp e2
          subst q
          rw [List.append_nil] at h
          exact hQ _ _ (po_here h hS (.tup k1 a1))
        · exact hQ _ _ (po_new h hS hp (.tup (SqT.of upd_same) (dvAll_mono (same_new (hS.fresh hp).1) (a1.app a2))))
theorem b_addL {ds es : List PyData} (r1 : RdL w1 O ds) (r2 : RdL w2 O es) (hl : ds.length + es.length ≤ sizeLine) (h : P (.d (.list (ds ++ es))) O) : BinD X (binaryOp .Add) w1 w2 O P :=
  bind_of op_cat fun v1 v2 Hr H Q hS h1 h2 hQ => by
    obtain ⟨p, vs, rfl, e1, a1⟩ := r1.at hS h1
    obtain ⟨q, us, rfl, e2, a2⟩ := r2.at hS h2
    exact ⟨_, _, _, _, rfl, rfl, e1, e2, by rw [a1.len, a2.len]; exact hl, fun p hp => hQ _ _ (po_new h hS hp (.lst upd_same (dvAll_mono (same_new (hS.fresh hp).1) (a1.app a2))))⟩
/-- .. owned -/
theorem b_addLO {ds es : List PyData} (r1 : RdL w1 O ds) (r2 : RdL w2 O es) (hl : ds.length + es.length ≤ sizeLine) (h : ∀ p, P (.r (.ref p)) ((p, .l (ds ++ es)) :: O)) : BinD X (binaryOp .Add) w1 w2 O P :=
  bind_of op_cat fun v1 v2 Hr H Q hS h1 h2 hQ => by
    obtain ⟨p, vs, rfl, e1, a1⟩ := r1.at hS h1
    obtain ⟨q, us, rfl, e2, a2⟩ := r2.at hS h2
    exact ⟨_, _, _, _, rfl, rfl, e1, e2, by rw [a1.len, a2.len]; exact hl, fun p hp => hQ _ _ ⟨_, _, Hr, h p, Same.refl _, hS.newOwn hp ⟨_, upd_same, a1.app a2⟩, rfl⟩⟩
theorem DvAll_rep {K : PySem.W.Frag} {H : Hp} {vs : List V} {ds : List PyData} (h : DvAll K H vs ds) : ∀ n : Nat, DvAll K H (List.replicate n vs).flatten (List.replicate n ds).flatten
  | 0 => .nil
  | n + 1 => by
    rw [List.replicate_succ, List.replicate_succ, List.flatten_cons, List.flatten_cons]
    exact h.app (DvAll_rep h n)
theorem b_repL {ds : List PyData} {k : Int} (r1 : RdL w1 O ds) (h1 : -(2 ^ 63) ≤ k) (h2 : k < 2 ^ 63) (hl : ds.length * k.toNat ≤ sizeLine) (h : P (.d (.list (List.replicate k.toNat ds).flatten)) O) : BinD X (binaryOp .Mult) w1 (.d (.int k)) O P :=
  bind_of op_rep fun v1 v2 Hr H Q hS k1 k2 hQ => by
    obtain ⟨p, vs, rfl, e1, a1⟩ := r1.at hS k1
    cases k2
    exact ⟨_, _, _, rfl, rfl, e1, h1, h2, by rw [a1.len]; exact hl, fun p hp => hQ _ _ (po_new h hS hp (.lst upd_same (dvAll_mono (same_new (hS.fresh hp).1) (DvAll_rep a1 _))))⟩
theorem b_repT {ds : List PyData} {k : Int} (hne : ds ≠ []) (h1 : 2 ≤ k) (h2 : k ≤ 1000) (hl : ds.length ≤ 1000) (h : P (.d (.tuple (List.replicate k.toNat ds).flatten)) O) : BinD X (binaryOp .Mult) (.d (.tuple ds)) (.d (.int k)) O P :=
  bind_of op_repT fun v1 v2 Hr H Q hS k1 k2 hQ => by
    cases k2
    cases k1 with
    | tup e1 a1 => exact ⟨_, _, _, rfl, rfl, same_t hS.ex e1, fun q => hne (a1.nil_iff.mp q), h1, h2, by rw [a1.len]; exact hl, fun p hp => hQ _ _ (po_new h hS hp (.tup (SqT.of upd_same) (dvAll_mono (same_new (hS.fresh hp).1) (DvAll_rep a1 _))))⟩

/-! ### an item -/
theorem atI_dv {K : PySem.W.Frag} {H : Hp} {vs : List V} {ds : List PyData} (h : DvAll K H vs ds) {i : Int} {d : PyData} (g : atI ds i = some d) : ∃ v, atI vs i = some v ∧ Dv K H v d := by
  unfold atI at g ⊢
  rw [← h.len] at g
  cases e : ixN vs.length i with
  | none =>
    rw [e] at g
    cases g
  | some j =>
    rw [e] at g
    exact h.get (i := j) g
theorem ix_l {ds : List PyData} {i : Int} {d : PyData} (r : RdL w1 O ds) (g : atI ds i = some d) (h : P (.d d) O) : IxD X w1 (.d (.int i)) O P :=
  ixd_of ix_list fun v1 v2 Hr H Q hS h1 h2 hQ => by
    obtain ⟨p, vs, rfl, e1, a1⟩ := r.at hS h1
    cases h2
    obtain ⟨v, gv, dv⟩ := atI_dv a1 g
    exact ⟨_, _, _, v, rfl, rfl, SqL.of e1, gv, hQ _ _ (po_here h hS dv)⟩
theorem ix_t {ds : List PyData} {i : Int} {d : PyData} (g : atI ds i = some d) (h : P (.d d) O) : IxD X (.d (.tuple ds)) (.d (.int i)) O P :=
  ixd_of ix_tup fun v1 v2 Hr H Q hS h1 h2 hQ => by
    cases h2
    cases h1 with
    | tup e1 a1 =>
      obtain ⟨v, gv, dv⟩ := atI_dv a1 g
      exact ⟨_, _, _, v, rfl, rfl, same_t hS.ex e1, gv, hQ _ _ (po_here h hS dv)⟩
theorem ix_s {z : Str} {i : Int} {c : Nat} (hz : z.length ≤ sizeLine) (g : atI z.cps.toList i = some c) (h : P (.d (.str ⟨#[c]⟩)) O) : IxD X (.d (.str z)) (.d (.int i)) O P :=
  ixd_of ix_str fun v1 v2 Hr H Q hS h1 h2 hQ => by
    cases h1
    cases h2
    exact ⟨z, i, c, rfl, rfl, hz, g, hQ _ _ (po_here h hS (.str _))⟩
/-- an item of the script -/
theorem ix_script {ns : List Int} {i : Int} {n : Int} (g : atI ns i = some n) (h : P (.d (.int n)) O) : IxD X (.s (.list (ns.map .int))) (.d (.int i)) O P :=
  ixd_of ix_list fun v1 v2 Hr H Q hS h1 h2 hQ => by
    cases h2
    cases h1 with
    | lst e1 a1 =>
      have e : ∀ {ns : List Int} {vs : List V}, DpAll X.K Hr vs (ns.map PyData.int) → vs = ns.map V.int := by
        intro ns
        induction ns with
        | nil => intro vs h; cases h; rfl
        | cons n r ih =>
          intro vs h
          cases h with
          | cons a b =>
            cases a
            rw [ih b]
            rfl
      have q := e a1
      subst q
      refine ⟨_, _, _, .int n, rfl, rfl, hS.ex.seq e1, ?_, hQ _ _ (po_here h hS (.int _))⟩
      unfold atI at g ⊢
      rw [List.length_map]
      cases e : ixN ns.length i with
      | none =>
        rw [e] at g
        cases g
      | some j =>
        rw [e] at g
        show (ns.map V.int)[j]? = some (V.int n)
        rw [List.getElem?_map, show ns[j]? = some n from g]
        rfl
end
end DL

set_option Elab.async false
set_option linter.all false
set_option maxRecDepth 100000
set_option maxHeartbeats 2000000
namespace DL
open PySem PySem.Spec PyProof.Rows L2

section
variable {X : Cx} {τ : Tau} {O : Own} {P : W → Own → Prop} {w w1 w2 : W} {pos p2 : Pos} {a : Expr} {lo hi : Option Expr}
/-! ### slices -/
def tpo (X : Cx) (e : Option Expr) : TO := fun σ H Q => ∀ (pins : List (Addr × Obj)) (s : Shared), Inv X pins σ H s → wpAny (model X.prog X.w) X.A (evalPart e X.env) (fun u s' => ∃ o H', Inv X pins σ H' s' ∧ IsPart u o ∧ Q o H') X.xe s
theorem po_tpo {e : Option Expr} : L2.PO X e (tpo X e) := ⟨fun pins s _ _ _ I h => h pins s I⟩
def PaO (K : PySem.W.Frag) (Hr : Hp) (P : Option Int → Own → Prop) : Option Int → Hp → Prop := fun b H' => ∃ O' Hr', P b O' ∧ Same Hr Hr' ∧ Sep K Hr' O' H'
def DPaR (X : Cx) (τ : Tau) (O : Own) (e : Option Expr) (P : Option Int → Own → Prop) : Prop :=
  ∀ (σ : L2.St) (Hr H : Hp) (Q : Option Int → Hp → Prop), En X.K Hr σ τ → Sep X.K Hr O H → (∀ v H', PaO X.K Hr P v H' → Q v H') → tpo X e σ H Q
structure DPa (X : Cx) (τ : Tau) (O : Own) (e : Option Expr) (P : Option Int → Own → Prop) : Prop where
  go : DPaR X τ O e P
instance {X : Cx} {τ : Tau} {O : Own} {e : Option Expr} {P : Option Int → Own → Prop} : CoeFun (DPa X τ O e P) (fun _ => DPaR X τ O e P) := ⟨DPa.go⟩
theorem dpa_none {PP : Option Int → Own → Prop} (h : PP none O) : DPa X τ O none PP := ⟨fun σ Hr H Q hE hS hQ pins s I => po_none.run pins s σ H Q I (hQ _ _ ⟨O, Hr, h, Same.refl _, hS⟩)⟩
def toI (P : Option Int → Own → Prop) : W → Own → Prop
  | .d (.int i), O => P (some i) O
  | _, _ => False
theorem dpa_some {PP : Option Int → Own → Prop} (h : DE X τ O a (toI PP)) : DPa X τ O (some a) PP := by
  refine ⟨?_⟩
  intro σ Hr H Q hE hS hQ pins s I
  refine (po_some pe_te).run pins s σ H Q I ?_
  refine h σ Hr H _ hE hS fun v H1 ⟨w, O1, Hr1, h1, e1, s1, k1⟩ => ?_
  cases w with
  | r u => exact h1.elim
  | s x => exact h1.elim
  | d x =>
    cases x with
    | int i =>
      cases k1
      exact ⟨i, rfl, hQ _ _ ⟨O1, Hr1, h1, e1, s1⟩⟩
    | _ => exact h1.elim
def cutL {α : Type} (xs : List α) (lo hi : Option Int) : List α := (xs.drop (HT.sIx xs.length 0 lo)).take (HT.sIx xs.length xs.length hi - HT.sIx xs.length 0 lo)
theorem cutL_dv {K : PySem.W.Frag} {H : Hp} {vs : List V} {ds : List PyData} (h : DvAll K H vs ds) (lo hi : Option Int) : DvAll K H (cutV vs lo hi) (cutL ds lo hi) := by
  unfold cutV cutL
  rw [h.len]
  exact (h.drop _).take _
theorem cutL_whole {α : Type} {xs : List α} {lo hi : Option Int} (h : HT.sIx xs.length 0 lo = 0 ∧ HT.sIx xs.length xs.length hi = xs.length) : cutL xs lo hi = xs := by
  unfold cutL
  rw [h.1, h.2]
  simp
/-- a slice by values -/
def SlDR (X : Cx) (w : W) (lo hi : Option Int) (O : Own) (P : W → Own → Prop) : Prop :=
  ∀ (v : V) (Hr H : Hp) (Q : VK), Sep X.K Hr O H → WOk X.K Hr v w → (∀ v H', PO X.K Hr P v H' → Q v H') →
  ∀ (pins : List (Addr × Obj)) (s : Shared) (σ : L2.St) (u vl vu : Value) (sl : Addr), Inv X pins σ H s → RelV v u → s.heap.IsSliceOf sl vl vu .none → IsPart vl lo → IsPart vu hi →
    ∃ T id, typeLookup (.type T) "__getitem__" = pure (some (.builtin id)) ∧ s.TypeIs u T ∧ wpAny (model X.prog X.w) X.A (getItem u (.ref sl)) (EP X pins σ Q) X.xe s
structure SlD (X : Cx) (w : W) (lo hi : Option Int) (O : Own) (P : W → Own → Prop) : Prop where
  go : SlDR X w lo hi O P
instance {X : Cx} {w : W} {lo hi : Option Int} {O : Own} {P : W → Own → Prop} : CoeFun (SlD X w lo hi O P) (fun _ => SlDR X w lo hi O P) := ⟨SlD.go⟩
theorem de_sl (h : DE X τ O a fun w O1 => DPa X τ O1 lo fun l O2 => DPa X τ O2 hi fun u O3 => SlD X w l u O3 P) : DE X τ O (.Subscript a (.Slice lo hi none p2) pos) P := by
  refine ⟨?_⟩
  intro σ Hr H Q hE hS hQ pins s I
  refine (pe_slice (r := fun x lo hi H Q => ∀ (pins : List (Addr × Obj)) (s : Shared) (σ : L2.St) (u vl vu : Value) (sl : Addr), Inv X pins σ H s → RelV x u → s.heap.IsSliceOf sl vl vu .none → IsPart vl lo → IsPart vu hi →
    ∃ T id, typeLookup (.type T) "__getitem__" = pure (some (.builtin id)) ∧ s.TypeIs u T ∧ wpAny (model X.prog X.w) X.A (getItem u (.ref sl)) (EP X pins σ Q) X.xe s)
    (fun pins s σ H x v vl vu lo hi sl Q I r1 r2 r3 r4 h => h pins s σ v vl vu sl I r1 r2 r3 r4) pe_te po_tpo po_tpo).run pins s σ H Q I ?_
  refine h σ Hr H _ hE hS fun x H1 ⟨w1, O1, Hr1, h1, e1, s1, k1⟩ => ?_
  refine h1 σ Hr1 H1 _ (hE.mono e1) s1 fun l H2 ⟨O2, Hr2, h2, e2, s2⟩ => ?_
  refine h2 σ Hr2 H2 _ (hE.mono (e1.trans e2)) s2 fun u H3 ⟨O3, Hr3, h3, e3, s3⟩ => ?_
  exact h3 x Hr3 H3 Q s3 (k1.mono (e2.trans e3)) fun v H' q => hQ v H' (po_to ((e1.trans e2).trans e3) q)
theorem sld_of {r : V → Option Int → Option Int → Hp → VK → Prop} {lo hi : Option Int} (ho : SlR X r)
    (k : ∀ (v : V) (Hr H : Hp) (Q : VK), Sep X.K Hr O H → WOk X.K Hr v w → (∀ v H', PO X.K Hr P v H' → Q v H') → r v lo hi H Q) : SlD X w lo hi O P := ⟨fun v Hr H Q hS h1 hQ pins s σ u vl vu sl I r1 r2 r3 r4 => ho pins s σ H v u vl vu lo hi sl Q I r1 r2 r3 r4 (k v Hr H Q hS h1 hQ)⟩
theorem sl_l {ds : List PyData} {lo hi : Option Int} (r : RdL w O ds) (h : P (.d (.list (cutL ds lo hi))) O) : SlD X w lo hi O P :=
  sld_of sl_list fun v Hr H Q hS h1 hQ => by
    obtain ⟨p, vs, rfl, e1, a1⟩ := r.at hS h1
    exact ⟨_, _, rfl, SqL.of e1, fun p hp => hQ _ _ (po_new h hS hp (.lst upd_same (dvAll_mono (same_new (hS.fresh hp).1) (cutL_dv a1 lo hi))))⟩
theorem sl_lO {ds : List PyData} {lo hi : Option Int} (r : RdL w O ds) (h : ∀ p, P (.r (.ref p)) ((p, .l (cutL ds lo hi)) :: O)) : SlD X w lo hi O P :=
  sld_of sl_list fun v Hr H Q hS h1 hQ => by
    obtain ⟨p, vs, rfl, e1, a1⟩ := r.at hS h1
    exact ⟨_, _, rfl, SqL.of e1, fun p hp => hQ _ _ ⟨_, _, Hr, h p, Same.refl _, hS.newOwn hp ⟨_, upd_same, cutL_dv a1 lo hi⟩, rfl⟩⟩
theorem sl_t {ds : List PyData} {lo hi : Option Int} (h : P (.d (.tuple (cutL ds lo hi))) O) : SlD X (.d (.tuple ds)) lo hi O P :=
  sld_of sl_tupA fun v Hr H Q hS h1 hQ => by
    cases h1 with
    | tup e1 a1 =>
      refine ⟨_, _, rfl, same_t hS.ex e1, fun q => ?_, fun q p hp => hQ _ _ (po_new h hS hp (.tup (SqT.of upd_same) (dvAll_mono (same_new (hS.fresh hp).1) (cutL_dv a1 lo hi))))⟩
      rw [a1.len] at q
      rw [cutL_whole q] at h
      exact hQ _ _ (po_here h hS (.tup e1 a1))
theorem sl_s {z : Str} {lo hi : Option Int} (hz : z.length ≤ sizeLine) (h : P (.d (.str (cutS z lo hi))) O) : SlD X (.d (.str z)) lo hi O P :=
  sld_of L2.sl_str fun v Hr H Q hS h1 hQ => by
    cases h1
    exact ⟨z, rfl, hz, hQ _ _ (po_here h hS (.str _))⟩

/-! ### built-in functions -/
theorem c_lenR {ds : List PyData} (r : RdW w O (.list ds)) (h : P (.d (.int ds.length)) O) : CallD X (.builtin "len") [w] O P :=
  calld_of call_len_seq fun vs Hr H Q hS h1 hQ => by
    cases h1 with
    | cons k1 k2 =>
      cases k2
      have d := r.dp hS k1
      cases d with
      | lst e1 a1 =>
        refine ⟨_, _, rfl, .inl e1, hQ _ _ (po_here h hS ?_)⟩
        have len : ∀ {vs : List V} {ds : List PyData}, DpAll X.K H vs ds → vs.length = ds.length := by
          intro vs ds h
          induction ds generalizing vs with
          | nil => cases h; rfl
          | cons d r ih =>
            cases h with
            | cons a b => rw [List.length_cons, List.length_cons, ih b]
        rw [len a1]
        exact .int _
theorem c_lenT {ds : List PyData} (h : P (.d (.int ds.length)) O) : CallD X (.builtin "len") [.d (.tuple ds)] O P :=
  calld_of call_len_seq fun vs Hr H Q hS h1 hQ => by
    cases h1 with
    | cons k1 k2 =>
      cases k2
      cases k1 with
      | tup e1 a1 =>
        refine ⟨_, _, rfl, .inr (same_t hS.ex e1), hQ _ _ (po_here h hS ?_)⟩
        rw [a1.len]
        exact .int _
theorem c_lenS {z : Str} (hz : z.length ≤ sizeLine) (h : P (.d (.int z.length)) O) : CallD X (.builtin "len") [.d (.str z)] O P :=
  calld_of call_len_str fun vs Hr H Q hS h1 hQ => by
    cases h1 with
    | cons k1 k2 =>
      cases k2
      cases k1
      exact ⟨z, rfl, hz, hQ _ _ (po_here h hS (.int _))⟩
theorem c_int {i : Int} (h : P (.d (.int i)) O) : CallD X (.type "int") [.d (.int i)] O P :=
  calld_of call_int1 fun vs Hr H Q hS h1 hQ => by
    cases h1 with
    | cons k1 k2 =>
      cases k2
      cases k1
      exact .inl ⟨i, rfl, hQ _ _ (po_here h hS (.int _))⟩
theorem c_intB {k : Bool} (h : P (.d (.int (if k then 1 else 0))) O) : CallD X (.type "int") [.d (.bool k)] O P :=
  calld_of call_int1 fun vs Hr H Q hS h1 hQ => by
    cases h1 with
    | cons k1 k2 =>
      cases k2
      cases k1
      exact .inr ⟨k, rfl, hQ _ _ (po_here h hS (.int _))⟩
theorem c_abs {i : Int} (h : P (.d (.int (if i < 0 then -i else i))) O) : CallD X (.builtin "abs") [.d (.int i)] O P :=
  calld_of call_abs fun vs Hr H Q hS h1 hQ => by
    cases h1 with
    | cons k1 k2 =>
      cases k2
      cases k1
      exact ⟨i, rfl, hQ _ _ (po_here h hS (.int _))⟩
theorem c_max2 {i j : Int} (hc : X.calm = true) (h : P (.d (.int (if j > i then j else i))) O) : CallD X (.builtin "max") [.d (.int i), .d (.int j)] O P :=
  calld_of (call_max2 hc) fun vs Hr H Q hS h1 hQ => by
    cases h1 with
    | cons k1 k2 =>
      cases k2 with
      | cons k3 k4 =>
        cases k4
        cases k1
        cases k3
        exact ⟨i, j, rfl, hQ _ _ (po_here h hS (.int _))⟩
theorem c_min2 {i j : Int} (hc : X.calm = true) (h : P (.d (.int (if j < i then j else i))) O) : CallD X (.builtin "min") [.d (.int i), .d (.int j)] O P :=
  calld_of (call_min2 hc) fun vs Hr H Q hS h1 hQ => by
    cases h1 with
    | cons k1 k2 =>
      cases k2 with
      | cons k3 k4 =>
        cases k4
        cases k1
        cases k3
        exact ⟨i, j, rfl, hQ _ _ (po_here h hS (.int _))⟩
theorem c_ord {c : Nat} (h : P (.d (.int c)) O) : CallD X (.builtin "ord") [.d (.str ⟨#[c]⟩)] O P :=
  calld_of call_ord fun vs Hr H Q hS h1 hQ => by
    cases h1 with
    | cons k1 k2 =>
      cases k2
      cases k1
      exact ⟨_, rfl, rfl, hQ _ _ (po_here h hS (.int _))⟩
theorem c_strI {i : Int} (hi : i.natAbs.log2 < 1920) (h : P (.d (.str (toString i))) O) : CallD X (.type "str") [.d (.int i)] O P :=
  calld_of call_str_int fun vs Hr H Q hS h1 hQ => by
    cases h1 with
    | cons k1 k2 =>
      cases k2
      cases k1
      exact ⟨i, rfl, hi, hQ _ _ (po_here h hS (.str _))⟩
theorem c_intS {z : Str} {n : Int} (hn : PySem.intText? z = some n) (hz : z.length ≤ 640) (h : P (.d (.int n)) O) : CallD X (.type "int") [.d (.str z)] O P :=
  calld_of call_int_str fun vs Hr H Q hS h1 hQ => by
    cases h1 with
    | cons k1 k2 =>
      cases k2
      cases k1
      exact ⟨z, n, rfl, hn, hz, hQ _ _ (po_here h hS (.int _))⟩
theorem c_list {ds : List PyData} (r : RdL w O ds) (h : P (.d (.list ds)) O) : CallD X (.type "list") [w] O P :=
  calld_of call_list_of fun vs Hr H Q hS h1 hQ => by
    cases h1 with
    | cons k1 k2 =>
      cases k2
      obtain ⟨p, vs, rfl, e1, a1⟩ := r.at hS k1
      exact ⟨_, _, rfl, .inl (SqL.of e1), fun p hp => hQ _ _ (po_new h hS hp (.lst upd_same (dvAll_mono (same_new (hS.fresh hp).1) a1)))⟩
theorem c_listO {ds : List PyData} (r : RdL w O ds) (h : ∀ p, P (.r (.ref p)) ((p, .l ds) :: O)) : CallD X (.type "list") [w] O P :=
  calld_of call_list_of fun vs Hr H Q hS h1 hQ => by
    cases h1 with
    | cons k1 k2 =>
      cases k2
      obtain ⟨p, vs, rfl, e1, a1⟩ := r.at hS k1
      exact ⟨_, _, rfl, .inl (SqL.of e1), fun p hp => hQ _ _ ⟨_, _, Hr, h p, Same.refl _, hS.newOwn hp ⟨_, upd_same, a1⟩, rfl⟩⟩
theorem c_listTO {ds : List PyData} (h : ∀ p, P (.r (.ref p)) ((p, .l ds) :: O)) : CallD X (.type "list") [.d (.tuple ds)] O P :=
  calld_of call_list_of fun vs Hr H Q hS h1 hQ => by
    cases h1 with
    | cons k1 k2 =>
      cases k2
      cases k1 with
      | tup e1 a1 => exact ⟨_, _, rfl, .inr (same_t hS.ex e1), fun p hp => hQ _ _ ⟨_, _, Hr, h p, Same.refl _, hS.newOwn hp ⟨_, upd_same, a1⟩, rfl⟩⟩
theorem c_listT {ds : List PyData} (h : P (.d (.list ds)) O) : CallD X (.type "list") [.d (.tuple ds)] O P :=
  calld_of call_list_of fun vs Hr H Q hS h1 hQ => by
    cases h1 with
    | cons k1 k2 =>
      cases k2
      cases k1 with
      | tup e1 a1 => exact ⟨_, _, rfl, .inr (same_t hS.ex e1), fun p hp => hQ _ _ (po_new h hS hp (.lst upd_same (dvAll_mono (same_new (hS.fresh hp).1) a1)))⟩
theorem c_tup {ds : List PyData} (r : RdL w O ds) (h : P (.d (.tuple ds)) O) : CallD X (.type "tuple") [w] O P :=
  calld_of call_tuple_of fun vs Hr H Q hS h1 hQ => by
    cases h1 with
    | cons k1 k2 =>
      cases k2
      obtain ⟨p, vs, rfl, e1, a1⟩ := r.at hS k1
      exact ⟨_, _, rfl, .inl ⟨SqL.of e1, fun p hp => hQ _ _ (po_new h hS hp (.tup (SqT.of upd_same) (dvAll_mono (same_new (hS.fresh hp).1) a1)))⟩⟩
theorem c_tupT {ds : List PyData} (h : P (.d (.tuple ds)) O) : CallD X (.type "tuple") [.d (.tuple ds)] O P :=
  calld_of call_tuple_of fun vs Hr H Q hS h1 hQ => by
    cases h1 with
    | cons k1 k2 =>
      cases k2
      cases k1 with
      | tup e1 a1 => exact ⟨_, _, rfl, .inr ⟨same_t hS.ex e1, hQ _ _ (po_here h hS (.tup e1 a1))⟩⟩
theorem c_sum {ns : List Int} (hc : X.calm = true) (r : RdL w O (ns.map .int)) (h : P (.d (.int ns.sum)) O) : CallD X (.builtin "sum") [w] O P :=
  calld_of (cr_sum hc) fun vs Hr H Q hS h1 hQ => by
    cases h1 with
    | cons k1 k2 =>
      cases k2
      obtain ⟨p, vs, rfl, e1, a1⟩ := r.at hS k1
      have q := a1.ints
      subst q
      exact ⟨_, ns, rfl, SqL.of e1, hQ _ _ (po_here h hS (.int _))⟩
theorem c_max {ns : List Int} (hc : X.calm = true) (r : RdL w O (ns.map .int)) (hn : 0 < ns.length) (h : ∀ m, m ∈ ns → (∀ y, y ∈ ns → y ≤ m) → P (.d (.int m)) O) : CallD X (.builtin "max") [w] O P :=
  calld_of (cr_max hc) fun vs Hr H Q hS h1 hQ => by
    cases h1 with
    | cons k1 k2 =>
      cases k2
      obtain ⟨p, vs, rfl, e1, a1⟩ := r.at hS k1
      have q := a1.ints
      subst q
      exact ⟨_, ns, rfl, SqL.of e1, hn, fun m hm hy => hQ _ _ (po_here (h m hm hy) hS (.int _))⟩
theorem c_min {ns : List Int} (hc : X.calm = true) (r : RdL w O (ns.map .int)) (hn : 0 < ns.length) (h : ∀ m, m ∈ ns → (∀ y, y ∈ ns → m ≤ y) → P (.d (.int m)) O) : CallD X (.builtin "min") [w] O P :=
  calld_of (cr_min hc) fun vs Hr H Q hS h1 hQ => by
    cases h1 with
    | cons k1 k2 =>
      cases k2
      obtain ⟨p, vs, rfl, e1, a1⟩ := r.at hS k1
      have q := a1.ints
      subst q
      exact ⟨_, ns, rfl, SqL.of e1, hn, fun m hm hy => hQ _ _ (po_here (h m hm hy) hS (.int _))⟩
theorem c_all {bs : List Bool} (hc : X.calm = true) (r : RdL w O (bs.map .bool)) (h : P (.d (.bool (bs.all id))) O) : CallD X (.builtin "all") [w] O P :=
  calld_of (cr_all hc) fun vs Hr H Q hS h1 hQ => by
    cases h1 with
    | cons k1 k2 =>
      cases k2
      obtain ⟨p, vs, rfl, e1, a1⟩ := r.at hS k1
      have q := a1.bools
      subst q
      exact ⟨_, bs, rfl, SqL.of e1, hQ _ _ (po_here h hS (.bl _))⟩
theorem c_any {bs : List Bool} (hc : X.calm = true) (r : RdL w O (bs.map .bool)) (h : P (.d (.bool (bs.any id))) O) : CallD X (.builtin "any") [w] O P :=
  calld_of (cr_any hc) fun vs Hr H Q hS h1 hQ => by
    cases h1 with
    | cons k1 k2 =>
      cases k2
      obtain ⟨p, vs, rfl, e1, a1⟩ := r.at hS k1
      have q := a1.bools
      subst q
      exact ⟨_, bs, rfl, SqL.of e1, hQ _ _ (po_here h hS (.bl _))⟩
/-- isinstance(x, T) -/
def tyN : PyData → String
  | .none => "NoneType" | .bool _ => "bool" | .int _ => "int" | .str _ => "str" | .list _ => "list" | .tuple _ => "tuple" | .dict _ => "dict"
def kB (T n : String) : Bool := T == n || (T == "int" && n == "bool")
def isT (T : String) (d : PyData) : Bool := kB T (tyN d)
theorem tyx_of {K : PySem.W.Frag} {H : Hp} {v : V} {d : PyData} (h : Dv K H v d) : TyX K H v (.type (tyN d)) := by
  cases h with
  | non => exact .base .non
  | bl b => exact .base (.bl b)
  | int i => exact .base (.int i)
  | str x => exact .base (.str x)
  | lst e a => exact .base (.lst e)
  | tup e a =>
    rcases e with (e | ⟨o, e⟩) | ⟨o, its, n, hk, hc, _⟩
    · exact .base (.tup e)
    · exact .fTuple e
    · exact .kTuple hk hc
def goodT (T : String) : Prop := T = "int" ∨ T = "bool" ∨ T = "str" ∨ T = "list" ∨ T = "tuple"
theorem kit_all {T : String} (hT : goodT T) (d : PyData) : kitB (tyN d) T = some (isT T d) := by
  rcases hT with rfl | rfl | rfl | rfl | rfl <;> cases d <;> simp only [tyN, isT] <;> decide +kernel
theorem c_isi {T : String} {d : PyData} (hT : goodT T) (h : P (.d (.bool (isT T d))) O) : CallD X (.builtin "isinstance") [.d d, .r (.ty T)] O P :=
  calld_of call_isi fun vs Hr H Q hS h1 hQ => by
    cases h1 with
    | cons k1 k2 =>
      cases k2 with
      | cons k3 k4 =>
        cases k4
        cases k3
        exact ⟨_, _, _, _, _, rfl, .ty T, tyx_of (dv_mono hS.ex k1), kit_ty (kit_all hT d), hQ _ _ (po_here h hS (.bl _))⟩
theorem c_isiO {T : String} {p : Addr} (j : Nat) {ds : List PyData} (hj : O[j]? = some (p, .l ds)) (hT : goodT T) (h : P (.d (.bool (isT T (.list ds)))) O) : CallD X (.builtin "isinstance") [.r (.ref p), .r (.ty T)] O P :=
  calld_of call_isi fun vs Hr H Q hS h1 hQ => by
    cases h1 with
    | cons k1 k2 =>
      cases k2 with
      | cons k3 k4 =>
        cases k4
        cases k3
        cases k1
        obtain ⟨vs, e1, a1⟩ := hS.cell hj
        exact ⟨_, _, _, _, _, rfl, .ty T, .base (.lst e1), kit_ty (kit_all hT (.list ds)), hQ _ _ (po_here h hS (.bl _))⟩
/-- sorted(..) of ints, of texts -/
theorem c_sortI {ns : List Int} (r : RdL w O (ns.map .int)) (hn : ns.length < 64) (h : ∀ ns' : List Int, ns'.Perm ns → ns'.Pairwise (· ≤ ·) → P (.d (.list (ns'.map .int))) O) : CallD X (.builtin "sorted") [w] O P :=
  calld_of cr_sorted fun vs Hr H Q hS h1 hQ => by
    cases h1 with
    | cons k1 k2 =>
      cases k2
      obtain ⟨p, vs, rfl, e1, a1⟩ := r.at hS k1
      have q := a1.ints
      subst q
      exact ⟨_, ns, rfl, SqL.of e1, hn, fun ns' p h1 h2 hp => hQ _ _ (po_new (h ns' h1 h2) hS hp (.lst upd_same (DvAll.ofInts ns')))⟩

/-! ### methods -/
def TyD (X : Cx) (T : String) (w : W) (O : Own) : Prop := ∀ (v : V) (Hr H : Hp), Sep X.K Hr O H → WOk X.K Hr v w → tyV X.K T v H
theorem tyd_s {z : Str} : TyD X "str" (.d (.str z)) O := fun v Hr H S k => by cases k; rfl
theorem tyd_l {ds : List PyData} (r : RdL w O ds) : TyD X "list" w O := fun v Hr H S k => by
  obtain ⟨p, vs, rfl, e1, a1⟩ := r.at S k
  exact .inl ⟨rfl, _, SqL.of e1⟩
theorem de_met {T id : String} {o e : Expr} {es : List Expr} {name : Str} {apos cpos : Pos} (pa : PlainAttrs T) (slot : Slot T name id) (hty : typeOf (.builtin id) = pure (.type "method_descriptor"))
    (h : DE X τ O o fun w O1 => TyD X T w O1 ∧ DA X τ O1 (e :: es) fun ws O2 => MetD X T id w ws O2 P)
    (hbase : attributeBase o name X.env (eval o X.env) = eval o X.env := by rfl)
    (hfew : ((backTo cpos (starEach (e :: es) X.env)).all (fun x => !x.1) && (backToKw cpos (keywordEach [] X.env)).all (fun x => x.1.isSome)
      && decide ((e :: es).length + ([] : List Keyword).length + (if ([] : List Keyword).isEmpty then 0 else 1) < 30)) = true := by rfl)
    (hline : (apos.endLine == cpos.line) = true := by rfl) (hs : starEach (e :: es) X.env = (false, eval e X.env) :: starEach es X.env := by rfl) (hplain : (backTo cpos (starEach es X.env)).any (·.1) = false := by rfl) :
    DE X τ O (.Call (.Attribute o name apos) (e :: es) [] cpos) P := by
  refine ⟨?_⟩
  intro σ Hr H Q hE hS hQ pins s I
  refine (pe_bm pa slot hty mr_ok pe_te pa_ta hbase hfew hline hs hplain).run pins s σ H Q I ?_
  refine h σ Hr H _ hE hS fun x H1 ⟨w1, O1, Hr1, ⟨h1, h1'⟩, e1, s1, k1⟩ => ⟨h1 x Hr1 H1 s1 k1, ?_⟩
  refine h1' σ Hr1 H1 _ (hE.mono e1) s1 fun ys H2 ⟨ws, O2, Hr2, h2, e2, s2, k2⟩ => ?_
  exact h2 x ys Hr2 H2 Q s2 (k1.mono e2) k2 fun v H' q => hQ v H' (po_to (e1.trans e2) q)
theorem de_met0 {T id : String} {o : Expr} {name : Str} {apos cpos : Pos} (pa : PlainAttrs T) (slot : Slot T name id) (hty : typeOf (.builtin id) = pure (.type "method_descriptor"))
    (h : DE X τ O o fun w O1 => TyD X T w O1 ∧ MetD X T id w [] O1 P)
    (hbase : attributeBase o name X.env (eval o X.env) = eval o X.env := by rfl) (hline : (apos.endLine == cpos.line) = true := by rfl) : DE X τ O (.Call (.Attribute o name apos) [] [] cpos) P := by
  refine ⟨?_⟩
  intro σ Hr H Q hE hS hQ pins s I
  refine (pe_bm0 pa slot hty mr_ok pe_te hbase hline).run pins s σ H Q I ?_
  refine h σ Hr H _ hE hS fun x H1 ⟨w1, O1, Hr1, ⟨h1, h2⟩, e1, s1, k1⟩ => ⟨h1 x Hr1 H1 s1 k1, ?_⟩
  exact h2 x [] Hr1 H1 Q s1 k1 .nil fun v H' q => hQ v H' (po_to e1 q)
theorem m_append {p : Addr} {j : Nat} {ds : List PyData} {d : PyData} (hj : O[j]? = some (p, .l ds)) (hz : ds.length < sizeLine) (h : P (.d .none) (O.set j (p, .l (ds ++ [d])))) : MetD X "list" "list.append" (.r (.ref p)) [.d d] O P :=
  metd_of mt_append fun v vs Hr H Q hS h0 h1 hQ => by
    cases h0
    cases h1 with
    | cons k1 k2 =>
      cases k2
      obtain ⟨us, e1, a1⟩ := hS.cell hj
      exact ⟨_, _, _, rfl, rfl, e1, by rw [a1.len]; exact hz, hQ _ _ ⟨_, _, Hr, h, Same.refl _, hS.put hj ⟨_, upd_same, a1.snoc k1⟩, .non⟩⟩
theorem m_insert {p : Addr} {j : Nat} {ds : List PyData} {d : PyData} {i : Int} (hj : O[j]? = some (p, .l ds)) (hz : ds.length < sizeLine) (h0 : 0 ≤ i) (h1 : i < 2 ^ 63) (h : P (.d .none) (O.set j (p, .l (ds.take i.toNat ++ [d] ++ ds.drop i.toNat)))) :
    MetD X "list" "list.insert" (.r (.ref p)) [.d (.int i), .d d] O P :=
  metd_of mt_insert fun v vs Hr H Q hS k0 k1 hQ => by
    cases k0
    cases k1 with
    | cons k1 k2 =>
      cases k2 with
      | cons k2 k3 =>
        cases k3
        cases k1
        obtain ⟨us, e1, a1⟩ := hS.cell hj
        exact ⟨_, _, i, _, rfl, rfl, e1, by rw [a1.len]; exact hz, h0, h1, hQ _ _ ⟨_, _, Hr, h, Same.refl _, hS.put hj ⟨_, upd_same, ((a1.take _).snoc k2).app (a1.drop _)⟩, .non⟩⟩
theorem m_join {x : Str} {ys : List Str} (r : RdL w O (ys.map .str)) (hz : (ys.map (·.length)).sum + ys.length * x.length ≤ 16777216) (h : P (.d (.str (Txt.join x ys))) O) : MetD X "str" "str.join" (.d (.str x)) [w] O P :=
  metd_of mt_join fun v vs Hr H Q hS k0 k1 hQ => by
    cases k0
    cases k1 with
    | cons k1 k2 =>
      cases k2
      obtain ⟨p, vs, rfl, e1, a1⟩ := r.at hS k1
      have q := a1.strs
      subst q
      exact ⟨x, _, ys, rfl, rfl, .inl (SqL.of e1), hz, hQ _ _ (po_here h hS (.str _))⟩
theorem m_index {ds : List PyData} {d z : PyData} (j : Nat) (hu : X.A.units + 65 < cLine) (r : RdL w O ds) (hl : SeqAt.shaped (.list ds) = true) (hd : SeqAt.shaped d = true) (hj : ds[j]? = some z) (he : PyData.eqv z d = true)
    (hn : ∀ (m : Nat) (z' : PyData), m < j → ds[m]? = some z' → PyData.eqv z' d = false) (h : P (.d (.int j)) O) : MetD X "list" "list.index" w [.d d] O P :=
  metd_of (mt_indexD hu) fun v vs Hr H Q hS k0 k1 hQ => by
    cases k1 with
    | cons k1 k2 =>
      cases k2
      obtain ⟨p, us, rfl, e1, a1⟩ := r.at hS k0
      exact ⟨_, _, d, ds, j, z, rfl, rfl, (Dv.lst e1 (dvAll_mono hS.ex a1)).dp, (dv_mono hS.ex k1).dp, hl, hd, hj, he, hn, hQ _ _ (po_here h hS (.int _))⟩
theorem m_isdigit {z : Str} (h : P (.d (.bool (Txt.isdigit z))) O) : MetD X "str" "str.isdigit" (.d (.str z)) [] O P :=
  metd_of mt_isdigit fun v vs Hr H Q hS k0 k1 hQ => by
    cases k0
    cases k1
    exact ⟨z, rfl, rfl, trivial, hQ _ _ (po_here h hS (.bl _))⟩
theorem m_startswith {z y : Str} (h : P (.d (.bool (Txt.startswith z y))) O) : MetD X "str" "str.startswith" (.d (.str z)) [.d (.str y)] O P :=
  metd_of mt_startswith fun v vs Hr H Q hS k0 k1 hQ => by
    cases k0
    cases k1 with
    | cons k1 k2 =>
      cases k2
      cases k1
      exact ⟨z, y, rfl, rfl, hQ _ _ (po_here h hS (.bl _))⟩
end
end DL

set_option Elab.async false
set_option linter.all false
set_option maxRecDepth 100000
set_option maxHeartbeats 2000000
namespace DL
open PySem PySem.Spec PyProof.Rows L2

/-! ### statements -/
structure DEn where
  nx : Tau → Own → Prop
  rt : W → Own → Prop
  bk : Tau → Own → Prop := fun _ _ => False
  ct : Tau → Own → Prop := fun _ _ => False
def NO (K : PySem.W.Frag) (Hr : Hp) (P : Tau → Own → Prop) : L2.St → Hp → Prop := fun σ' H' => ∃ τ' O' Hr', P τ' O' ∧ Same Hr Hr' ∧ Sep K Hr' O' H' ∧ En K Hr' σ' τ'
structure EOk (K : PySem.W.Frag) (Hr : Hp) (D : DEn) (E : Ends) : Prop where
  nx : ∀ σ H, NO K Hr D.nx σ H → E.nx σ H
  rt : ∀ v H, PO K Hr D.rt v H → E.rt v H
  bk : ∀ σ H, NO K Hr D.bk σ H → E.bk σ H
  ct : ∀ σ H, NO K Hr D.ct σ H → E.ct σ H
def DSR (X : Cx) (τ : Tau) (O : Own) (st : Stmt) (D : DEn) : Prop :=
  ∀ (σ : L2.St) (Hr H : Hp) (E : Ends), En X.K Hr σ τ → Sep X.K Hr O H → EOk X.K Hr D E → ts X st E σ H
structure DS (X : Cx) (τ : Tau) (O : Own) (st : Stmt) (D : DEn) : Prop where
  go : DSR X τ O st D
instance {X : Cx} {τ : Tau} {O : Own} {st : Stmt} {D : DEn} : CoeFun (DS X τ O st D) (fun _ => DSR X τ O st D) := ⟨DS.go⟩
def DSsR (X : Cx) (τ : Tau) (O : Own) (st : List Stmt) (D : DEn) : Prop :=
  ∀ (σ : L2.St) (Hr H : Hp) (E : Ends), En X.K Hr σ τ → Sep X.K Hr O H → EOk X.K Hr D E → tss X st E σ H
structure DSs (X : Cx) (τ : Tau) (O : Own) (st : List Stmt) (D : DEn) : Prop where
  go : DSsR X τ O st D
instance {X : Cx} {τ : Tau} {O : Own} {st : List Stmt} {D : DEn} : CoeFun (DSs X τ O st D) (fun _ => DSsR X τ O st D) := ⟨DSs.go⟩
/-- targets -/
def tg (X : Cx) (t : Expr) : TG := fun v σ H Q => ∀ (pins : List (Addr × Obj)) (s : Shared) (u : Value), Inv X pins σ H s → RelV v u →
    wpAny (model X.prog X.w) X.A (assign t X.env u) (fun _ s' => ∃ σ' H', Inv X pins σ' H' s' ∧ Q σ' H') X.xe s
theorem pg_tg {X : Cx} {t : Expr} : PG X t (tg X t) := ⟨fun pins s _ _ _ u _ I r h => h pins s u I r⟩
def DTgR (X : Cx) (τ : Tau) (O : Own) (t : Expr) (w : W) (P : Tau → Own → Prop) : Prop :=
  ∀ (v : V) (σ : L2.St) (Hr H : Hp) (Q : L2.St → Hp → Prop), En X.K Hr σ τ → Sep X.K Hr O H → WOk X.K Hr v w → (∀ σ' H', NO X.K Hr P σ' H' → Q σ' H') → tg X t v σ H Q

structure DTg (X : Cx) (τ : Tau) (O : Own) (t : Expr) (w : W) (P : Tau → Own → Prop) : Prop where
  go : DTgR X τ O t w P
instance {X : Cx} {τ : Tau} {O : Own} {t : Expr} {w : W} {P : Tau → Own → Prop} : CoeFun (DTg X τ O t w P) (fun _ => DTgR X τ O t w P) := ⟨DTg.go⟩
section
variable {X : Cx} {τ : Tau} {O : Own} {D : DEn} {P : W → Own → Prop} {PN : Tau → Own → Prop} {e a b c : Expr} {st : Stmt} {rest body body2 : List Stmt} {pos : Pos} {w : W}
theorem no_to {K : PySem.W.Frag} {Hr Hr' : Hp} (e : Same Hr Hr') {σ : L2.St} {H : Hp} (h : NO K Hr' PN σ H) : NO K Hr PN σ H := by
  obtain ⟨τ', O', Hr2, h1, h2, h3, h4⟩ := h
  exact ⟨τ', O', Hr2, h1, e.trans h2, h3, h4⟩
theorem EOk.to {K : PySem.W.Frag} {Hr Hr' : Hp} {E : Ends} (h : EOk K Hr D E) (e : Same Hr Hr') : EOk K Hr' D E :=
  ⟨fun σ H q => h.nx σ H (no_to e q), fun v H q => h.rt v H (po_to e q), fun σ H q => h.bk σ H (no_to e q), fun σ H q => h.ct σ H (no_to e q)⟩
theorem EOk.nxOf {K : PySem.W.Frag} {Hr : Hp} {E : Ends} (h : EOk K Hr D E) {N : Tau → Own → Prop} {N' : L2.St → Hp → Prop} (q : ∀ σ H, NO K Hr N σ H → N' σ H) : EOk K Hr { D with nx := N } { E with nx := N' } :=
  ⟨q, h.rt, h.bk, h.ct⟩
theorem dss_nil (h : D.nx τ O) : DSs X τ O [] D := ⟨fun σ Hr H E hE hS hD pins s I => pss_nil.run pins s σ H E I (hD.nx σ H ⟨τ, O, Hr, h, Same.refl _, hS, hE⟩)⟩
theorem dss_one (h : DS X τ O st D) : DSs X τ O [st] D := ⟨fun σ Hr H E hE hS hD pins s I => (pss_one ps_ts).run pins s σ H E I (h σ Hr H E hE hS hD)⟩
theorem dss_cons (h : DS X τ O st { D with nx := fun τ' O' => DSs X τ' O' rest D }) : DSs X τ O (st :: rest) D := ⟨fun σ Hr H E hE hS hD pins s I =>
  (pss_cons ps_ts pss_tss).run pins s σ H E I (h σ Hr H _ hE hS (hD.nxOf fun σ' H' ⟨τ', O', Hr', p, e, s', k⟩ => p σ' Hr' H' E k s' (hD.to e)))⟩
theorem ds_pass (h : D.nx τ O) : DS X τ O (.Pass pos) D := ⟨fun σ Hr H E hE hS hD pins s I => ps_pass.run pins s σ H E I (hD.nx σ H ⟨τ, O, Hr, h, Same.refl _, hS, hE⟩)⟩
theorem ds_break (h : D.bk τ O) : DS X τ O (.Break pos) D := ⟨fun σ Hr H E hE hS hD pins s I => ps_break.run pins s σ H E I (hD.bk σ H ⟨τ, O, Hr, h, Same.refl _, hS, hE⟩)⟩
theorem ds_continue (h : D.ct τ O) : DS X τ O (.Continue pos) D := ⟨fun σ Hr H E hE hS hD pins s I => ps_continue.run pins s σ H E I (hD.ct σ H ⟨τ, O, Hr, h, Same.refl _, hS, hE⟩)⟩
theorem ds_doc {x j pos'} (h : D.nx τ O) : DS X τ O (.Expr (.Constant (.str x) j pos) pos') D := ⟨fun σ Hr H E hE hS hD pins s I => ps_doc.run pins s σ H E I (hD.nx σ H ⟨τ, O, Hr, h, Same.refl _, hS, hE⟩)⟩
theorem ds_expr (h : DE X τ O e fun _ O1 => D.nx τ O1) (hs : swapsWith e none pos.line X.env = pure false := by rfl) : DS X τ O (.Expr e pos) D := ⟨fun σ Hr H E hE hS hD pins s I =>
  (ps_expr pe_te hs).run pins s σ H E I (h σ Hr H _ hE hS fun v H' ⟨w, O', Hr', p, e, s', k⟩ => hD.nx σ H' ⟨τ, O', Hr', p, e, s', hE.mono e⟩)⟩
theorem ds_ret (h : DE X τ O e D.rt) : DS X τ O (.Return (some e) pos) D := ⟨fun σ Hr H E hE hS hD pins s I =>
  (ps_ret pe_te).run pins s σ H E I (h σ Hr H _ hE hS hD.rt)⟩
theorem ds_retN (h : D.rt (.d .none) O) : DS X τ O (.Return none pos) D := ⟨fun σ Hr H E hE hS hD pins s I => ps_retN.run pins s σ H E I (hD.rt _ H (po_here h hS .non))⟩
theorem ds_if (h : DT X τ O c fun k O1 => if k = true then DSs X τ O1 body D else DSs X τ O1 body2 D) : DS X τ O (.If c body body2 pos) D := by
  refine ⟨?_⟩
  intro σ Hr H E hE hS hD pins s I
  refine (ps_if pt_tt pss_tss pss_tss).run pins s σ H E I ?_
  refine h σ Hr H _ hE hS fun k H1 ⟨O1, Hr1, p1, e1, s1⟩ => ?_
  cases k with
  | true => exact DSs.go p1 σ Hr1 H1 E (hE.mono e1) s1 (hD.to e1)
  | false => exact DSs.go p1 σ Hr1 H1 E (hE.mono e1) s1 (hD.to e1)
/-- name = e -/
theorem ds_asg (i : Nat) {x : Str} {pos' : Pos} (h : DE X τ O e fun w O1 => D.nx (τ.set i (some w)) O1) (hN : X.N.Nodup) (hi : X.N[i]? = some x := by rfl) (hx : Loc X.env.scope x := by first | exact Or.inl rfl | exact Or.inr rfl)
    (hs : swapsWith e (some (.Name x pos')) pos.line X.env = pure false := by rfl) (hf : X.fn x = true ∨ X.env.scope.names.lookup x = some .local := by first | exact .inl rfl | exact .inr rfl) : DS X τ O (.Assign [.Name x pos'] e pos) D := ⟨fun σ Hr H E hE hS hD pins s I => (ps_set hN hi hx pe_te hs hf).run pins s σ H E I
    (h σ Hr H _ hE hS fun v H' ⟨w, O', Hr', p, e, s', k⟩ => hD.nx _ H' ⟨_, O', Hr', p, e, s', (hE.mono e).set i k⟩)⟩
/-- o[i] = e, an owned list -/
theorem ds_sub {o i : Expr} {pos' : Pos} (h : DE X τ O e fun w O1 => DE X τ O1 o fun wo O2 => DE X τ O2 i fun wi O3 =>
      ∃ (p : Addr) (j : Nat) (ds : List PyData) (k : Int) (n : Nat) (d : PyData), w = .d d ∧ wo = .r (.ref p) ∧ wi = .d (.int k) ∧ O3[j]? = some (p, .l ds) ∧ ixN ds.length k = some n ∧ D.nx τ (O3.set j (p, .l (ds.set n d))))
    (hs : swapsWithSole [.Subscript o i pos'] e pos.line X.env = pure false := by rfl) (hw : swappedStores [.Subscript o i pos'] e X.env = pure none := by rfl)
    (h1 : (assignEach [.Subscript o i pos'] X.env).map (·.2) = [assign (.Subscript o i pos') X.env] := by rfl)
    (ha : ∀ v, assign (.Subscript o i pos') X.env v = (do
      let ov ← holding [v] (eval o X.env)
      let iv ← holding [v, ov] (eval i X.env)
      standAt pos'
      holding [v, ov, iv] (setItem ov iv v)
      release [v, ov, iv] []) := by intro _; rfl) : DS X τ O (.Assign [.Subscript o i pos'] e pos) D := by
  refine ⟨?_⟩
  intro σ Hr H E hE hS hD pins s I
  refine (ps_asg pe_te (pg_sub pe_te pe_te set_list ha) hs hw h1).run pins s σ H E I ?_
  refine h σ Hr H _ hE hS fun v1 H1 ⟨w1, O1, Hr1, h1, e1, s1, k1⟩ => ?_
  refine h1 σ Hr1 H1 _ (hE.mono e1) s1 fun v2 H2 ⟨w2, O2, Hr2, h2, e2, s2, k2⟩ => ?_
  refine h2 σ Hr2 H2 _ (hE.mono (e1.trans e2)) s2 fun v3 H3 ⟨w3, O3, Hr3, ⟨p, j, ds, k, n, d, q1, q2, q3, hj, hn, hx⟩, e3, s3, k3⟩ => ?_
  subst q1 q2 q3
  cases k2
  cases k3
  obtain ⟨us, u1, u2⟩ := s3.cell hj
  have kd : Dv X.K Hr3 v1 d := dv_mono (e2.trans e3) k1
  exact ⟨p, us, k, n, rfl, rfl, u1, by rw [u2.len]; exact hn, hD.nx _ _ ⟨_, _, Hr3, hx, (e1.trans e2).trans e3, s3.put hj ⟨_, upd_same, u2.set n kd⟩, hE.mono ((e1.trans e2).trans e3)⟩⟩
/-- x op= e -/
theorem ds_aug (i : Nat) {x : Str} {pos' : Pos} {op : Operator} (ht : τ[i]? = some (some w)) (h : DE X τ O e fun w2 O1 => BinD X (inplaceOp op) w w2 O1 fun w3 O2 => D.nx (τ.set i (some w3)) O2) (hN : X.N.Nodup) (hi : X.N[i]? = some x := by rfl)
    (hx : Loc X.env.scope x := by first | exact Or.inl rfl | exact Or.inr rfl) (hf : X.fn x = true ∨ X.env.scope.names.lookup x = some .local := by first | exact .inl rfl | exact .inr rfl) : DS X τ O (.AugAssign (.Name x pos') op e pos) D := by
  refine ⟨?_⟩
  intro σ Hr H E hE hS hD pins s I
  refine (ps_aug (ti := BR X (inplaceOp op)) hN hi hx pe_te br_ok hf).run pins s σ H E I ?_
  obtain ⟨v, hv, kv⟩ := hE.at_ i w ht
  refine ⟨v, hv, h σ Hr H _ hE hS fun v2 H2 ⟨w2, O2, Hr2, h2, e2, s2, k2⟩ => ?_⟩
  refine h2 v v2 Hr2 H2 _ s2 (kv.mono e2) k2 fun v3 H3 ⟨w3, O3, Hr3, h3, e3, s3, k3⟩ => ?_
  exact hD.nx _ _ ⟨_, O3, Hr3, h3, e2.trans e3, s3, (hE.mono (e2.trans e3)).set i k3⟩

/-! ### what is owned, kept or forgotten -/
theorem dss_keep (i : Nat) {p : Addr} {ds : List PyData} {O' : Own} (ht : τ[i]? = some (some (.r (.ref p)))) (h : DSs X (τ.set i (some (.d (.list ds)))) O' rest D) : DSs X τ ((p, .l ds) :: O') rest D := by
  refine ⟨?_⟩
  intro σ Hr H E hE hS hD
  obtain ⟨Hr', e, s', d⟩ := hS.keep
  obtain ⟨v, hv, kv⟩ := hE.at_ i _ ht
  have kv' : v = .ref p := kv
  subst kv'
  have hE' := (hE.mono e).set i (v := .ref p) (w := .d (.list ds)) d
  have es : σ.set i (some (.ref p)) = σ := by
    apply List.ext_getElem?
    intro j
    rw [List.getElem?_set]
    by_cases q : i = j
    · subst q
      rw [if_pos rfl, if_pos (List.getElem?_eq_some_iff.mp hv).1]
      exact hv.symm
    · rw [if_neg q]
  rw [es] at hE'
  exact h σ Hr' H E hE' s' (hD.to e)
theorem dss_drop {x : Addr × Cell} {O' : Own} (h : DSs X τ O' rest D) : DSs X τ (x :: O') rest D := ⟨fun σ Hr H E hE hS hD => h σ Hr H E hE hS.drop hD⟩
/-- the value kept: an owned list that comes is let go -/
def kp (P : W → Own → Prop) : W → Own → Prop := fun w O => P w O ∨ ∃ (p : Addr) (ds : List PyData) (O' : Own), w = .r (.ref p) ∧ O = (p, .l ds) :: O' ∧ P (.d (.list ds)) O'
theorem po_kp {K : PySem.W.Frag} {Hr : Hp} {v : V} {H : Hp} (h : PO K Hr (kp P) v H) : PO K Hr P v H := by
  obtain ⟨w, O', Hr', h, e, s, k⟩ := h
  rcases h with h | ⟨p, ds, O2, rfl, rfl, h⟩
  · exact ⟨w, O', Hr', h, e, s, k⟩
  · obtain ⟨Hr2, e2, s2, d⟩ := s.keep
    have k' : v = .ref p := k
    subst k'
    exact ⟨_, O2, Hr2, h, e.trans e2, s2, d⟩
theorem de_kp (h : DE X τ O e (kp P)) : DE X τ O e P := ⟨fun σ Hr H Q hE hS hQ => h σ Hr H Q hE hS fun v H' q => hQ v H' (po_kp q)⟩
/-- garbage forgotten: cells at the head -/
def dr (P : W → Own → Prop) : W → Own → Prop := fun w O => ∃ (n : Nat), P w (O.drop n)
theorem Sep.dropN {K : PySem.W.Frag} {Hr H : Hp} : ∀ (n : Nat) {O : Own}, Sep K Hr O H → Sep K Hr (O.drop n) H
  | 0, _, h => h
  | n + 1, [], h => h
  | n + 1, x :: O, h => Sep.dropN n h.drop
theorem de_dr (h : DE X τ O e (dr P)) : DE X τ O e P := ⟨fun σ Hr H Q hE hS hQ => h σ Hr H Q hE hS fun v H' ⟨w, O', Hr', ⟨n, p⟩, e, s, k⟩ => hQ v H' ⟨w, O'.drop n, Hr', p, e, s.dropN n, k⟩⟩
/-! ### targets -/
theorem dtg_name (i : Nat) {x : Str} (h : PN (τ.set i (some w)) O) (hN : X.N.Nodup) (hi : X.N[i]? = some x := by rfl) (hx : Loc X.env.scope x := by first | exact Or.inl rfl | exact Or.inr rfl)
    (hf : X.fn x = true ∨ X.env.scope.names.lookup x = some .local := by first | exact .inl rfl | exact .inr rfl) : DTg X τ O (.Name x pos) w PN := ⟨fun v σ Hr H Q hE hS hv hQ pins s u I r => (pg_name hN hi hx hf).run pins s σ H v u Q I r (hQ _ _ ⟨_, O, Hr, h, Same.refl _, hS, hE.set i hv⟩)⟩
/-- several targets -/
def tgs (X : Cx) (ts : List Expr) : TGs := fun vs σ H Q => ∀ (pins : List (Addr × Obj)) (s : Shared) (us : List Value), Inv X pins σ H s → Vals vs us →
    wpAny (model X.prog X.w) X.A (assignInOrder ((assignEach ts X.env).map (·.2)) us) (fun _ s' => ∃ σ' H', Inv X pins σ' H' s' ∧ Q σ' H') X.xe s
theorem pgs_tgs {X : Cx} {t : List Expr} : PGs X t (tgs X t) := ⟨fun pins s _ _ _ us _ I r h => h pins s us I r⟩
def DTgsR (X : Cx) (τ : Tau) (O : Own) (t : List Expr) (ds : List PyData) (P : Tau → Own → Prop) : Prop :=
  ∀ (vs : List V) (σ : L2.St) (Hr H : Hp) (Q : L2.St → Hp → Prop), En X.K Hr σ τ → Sep X.K Hr O H → DvAll X.K Hr vs ds → (∀ σ' H', NO X.K Hr P σ' H' → Q σ' H') → tgs X t vs σ H Q
structure DTgs (X : Cx) (τ : Tau) (O : Own) (t : List Expr) (ds : List PyData) (P : Tau → Own → Prop) : Prop where
  go : DTgsR X τ O t ds P
instance {X : Cx} {τ : Tau} {O : Own} {t : List Expr} {ds : List PyData} {P : Tau → Own → Prop} : CoeFun (DTgs X τ O t ds P) (fun _ => DTgsR X τ O t ds P) := ⟨DTgs.go⟩
theorem dtgs_nil (h : PN τ O) : DTgs X τ O [] [] PN := ⟨fun vs σ Hr H Q hE hS hv hQ pins s us I r => by
  cases hv
  exact pgs_nil.run pins s σ H [] us Q I r ⟨rfl, hQ _ _ ⟨_, O, Hr, h, Same.refl _, hS, hE⟩⟩⟩
theorem dtgs_cons {t : Expr} {ts : List Expr} {d : PyData} {ds : List PyData} (h : DTg X τ O t (.d d) fun τ' O' => DTgs X τ' O' ts ds PN) (hs : (assignEach (t :: ts) X.env).map (·.2) = assign t X.env :: (assignEach ts X.env).map (·.2) := by rfl) : DTgs X τ O (t :: ts) (d :: ds) PN := ⟨fun vs σ Hr H Q hE hS hv hQ pins s us I r => by
    cases hv with
    | cons k1 k2 =>
      refine (pgs_cons pg_tg pgs_tgs hs).run pins s σ H _ us Q I r ⟨_, _, rfl, ?_⟩
      exact h _ σ Hr H _ hE hS k1 fun σ' H' ⟨τ', O', Hr', p, e, s', q⟩ => p _ σ' Hr' H' Q q s' (dvAll_mono e k2) fun σ2 H2 z => hQ _ _ (no_to e z)⟩
theorem dtg_tup {es : List Expr} {k : Nat} {ds : List PyData} (h : DTgs X τ O es ds PN) (hn : (assignEach es X.env).length = ds.length) (hc : X.calm = true := by rfl) (hst : (assignEach es X.env).findIdx? (·.1) = none := by rfl) :
    DTg X τ O (.Tuple es k pos) (.d (.tuple ds)) PN := ⟨fun v σ Hr H Q hE hS hv hQ pins s u I r => by
    cases hv with
    | tup k1 k2 => exact (pg_tup hc pgs_tgs hn hst).run pins s σ H _ u Q I r ⟨_, _, rfl, same_t hS.ex k1, k2.len, h _ σ Hr H Q hE hS k2 hQ⟩⟩
/-- target = e, any target -/
theorem ds_asgT {t : Expr} (h : DE X τ O e fun w O1 => DTg X τ O1 t w D.nx) (hs : swapsWithSole [t] e pos.line X.env = pure false := by rfl) (hw : swappedStores [t] e X.env = pure none := by rfl)
    (h1 : (assignEach [t] X.env).map (·.2) = [assign t X.env] := by rfl) : DS X τ O (.Assign [t] e pos) D := ⟨fun σ Hr H E hE hS hD pins s I => (ps_asg pe_te pg_tg hs hw h1).run pins s σ H E I
    (h σ Hr H _ hE hS fun v H' ⟨w, O', Hr', p, e, s', k⟩ => p v σ Hr' H' _ (hE.mono e) s' k fun σ2 H2 z => hD.nx _ _ (no_to e z))⟩
/-! ### what is walked -/
def ti (X : Cx) (tg iter : Expr) : TI := fun σ H R => ∀ (pins : List (Addr × Obj)) (s : Shared), Inv X pins σ H s →
    wpAny (model X.prog X.w) X.A (eval iter X.env) (fun v s1 => wpAny (model X.prog X.w) X.A (pyIter v) (PIE X pins σ tg R) X.xe s1) X.xe s
theorem pi_ti {t iter : Expr} : PI X t iter (ti X t iter) := ⟨fun pins s _ _ _ I h => h pins s I⟩
/-- what is given at a turn: a thing that is known, or a new tuple of such -/
def Gives (K : PySem.W.Frag) (Hr : Hp) (ds : List PyData) : Nat → Hp → V → Hp → Prop := fun i H v H' =>
  ∃ d, ds[i]? = some d ∧ ((H' = H ∧ Dv K Hr v d) ∨ ∃ (T : Addr) (vs : List V) (es : List PyData), v = .ref T ∧ H T = none ∧ H' = upd H T (.tup vs) ∧ d = .tuple es ∧ DvAll K Hr vs es)
def ItOk (K : PySem.W.Frag) (Hr : Hp) (J : It) (ds : List PyData) : Prop := Walk J ds.length (fun H => Same Hr H) (Gives K Hr ds)
def IterDR (X : Cx) (t iter : Expr) (τ : Tau) (O : Own) (R : List PyData → Own → Prop) : Prop :=
  ∀ (σ : L2.St) (Hr H : Hp) (Rr : It → Hp → Prop), En X.K Hr σ τ → Sep X.K Hr O H →
    (∀ J H1 ds O1 Hr1, R ds O1 → Same Hr Hr1 → Sep X.K Hr1 O1 H1 → ItOk X.K Hr1 J ds → Rr J H1) → ti X t iter σ H Rr
structure IterD (X : Cx) (t iter : Expr) (τ : Tau) (O : Own) (R : List PyData → Own → Prop) : Prop where
  go : IterDR X t iter τ O R
instance {X : Cx} {t iter : Expr} {τ : Tau} {O : Own} {R : List PyData → Own → Prop} : CoeFun (IterD X t iter τ O R) (fun _ => IterDR X t iter τ O R) := ⟨IterD.go⟩
theorem Gives.sep {K : PySem.W.Frag} {Hr Hr' H H' : Hp} {ds : List PyData} {i : Nat} {v : V} {O : Own} (g : Gives K Hr ds i H v H') (e : Same Hr Hr') (S : Sep K Hr' O H) :
    ∃ d Hr2, ds[i]? = some d ∧ Same Hr' Hr2 ∧ Sep K Hr2 O H' ∧ Dv K Hr2 v d := by
  obtain ⟨d, hd, ⟨rfl, k⟩ | ⟨T, vs, es, rfl, hT, rfl, rfl, k⟩⟩ := g
  · exact ⟨d, Hr', hd, Same.refl _, S, dv_mono e k⟩
  · exact ⟨_, upd Hr' T (.tup vs), hd, same_new (S.fresh hT).1, S.new hT, .tup (SqT.of upd_same) (dvAll_mono (e.trans (same_new (S.fresh hT).1)) k)⟩
theorem it_list {t iter : Expr} {R : List PyData → Own → Prop} (h : DE X τ O iter fun w O1 => ∃ ds, w = .d (.list ds) ∧ R ds O1) : IterD X t iter τ O R := by
  refine ⟨?_⟩
  intro σ Hr H Rr hE hS hR pins s I
  refine (pi_list pe_te).run pins s σ H Rr I ?_
  refine h σ Hr H _ hE hS fun v H1 ⟨w, O1, Hr1, ⟨ds, hw, hr⟩, e1, s1, k1⟩ => ?_
  subst hw
  cases k1 with
  | lst ha da =>
    refine ⟨_, rfl, ⟨_, SqL.of (s1.ex _ _ ha)⟩, hR _ H1 ds O1 Hr1 hr e1 s1 ?_⟩
    unfold ItOk
    rw [← da.len]
    exact (walk_list (K := X.K)).mono (fun H g => SqL.of (g _ _ ha)) fun i H x H' hi g y => by
      obtain ⟨d, hd, kd⟩ := da.getV y.2
      exact ⟨d, hd, .inl ⟨y.1, kd⟩⟩
theorem it_tup {t iter : Expr} {R : List PyData → Own → Prop} (h : DE X τ O iter fun w O1 => ∃ ds, w = .d (.tuple ds) ∧ R ds O1) : IterD X t iter τ O R := by
  refine ⟨?_⟩
  intro σ Hr H Rr hE hS hR pins s I
  refine (pi_tup pe_te).run pins s σ H Rr I ?_
  refine h σ Hr H _ hE hS fun v H1 ⟨w, O1, Hr1, ⟨ds, hw, hr⟩, e1, s1, k1⟩ => ?_
  subst hw
  cases k1 with
  | tup ha da =>
    refine ⟨_, rfl, ⟨_, same_t s1.ex ha⟩, hR _ H1 ds O1 Hr1 hr e1 s1 ?_⟩
    unfold ItOk
    rw [← da.len]
    exact (walk_tup (K := X.K)).mono (fun H g => same_t g ha) fun i H x H' hi g y => by
      obtain ⟨d, hd, kd⟩ := da.getV y.2
      exact ⟨d, hd, .inl ⟨y.1, kd⟩⟩
/-- the signs of a text -/
def signs (z : Str) : List PyData := z.cps.toList.map fun c => .str ⟨#[c]⟩
theorem it_str {t iter : Expr} {R : List PyData → Own → Prop} (h : DE X τ O iter fun w O1 => ∃ z, w = .d (.str z) ∧ R (signs z) O1) : IterD X t iter τ O R := by
  refine ⟨?_⟩
  intro σ Hr H Rr hE hS hR pins s I
  refine (pi_str pe_te).run pins s σ H Rr I ?_
  refine h σ Hr H _ hE hS fun v H1 ⟨w, O1, Hr1, ⟨z, hw, hr⟩, e1, s1, k1⟩ => ?_
  subst hw
  cases k1
  refine ⟨z, rfl, hR _ H1 (signs z) O1 Hr1 hr e1 s1 ?_⟩
  unfold ItOk
  have e : (signs z).length = z.cps.size := by simp [signs]
  rw [e]
  exact walk_str.mono (fun _ _ => trivial) fun i H x H' hi g y => by
    obtain ⟨y1, c, y2, rfl⟩ := y
    refine ⟨.str ⟨#[c]⟩, ?_, .inl ⟨y1, .str _⟩⟩
    simp [signs, y2]
def rangeD (lo : Int) (n : Nat) : List PyData := (List.range n).map fun i => .int (lo + (i : Nat))
theorem it_range1 {t a : Expr} {p pos : Pos} {R : List PyData → Own → Prop} (hm : X.mg "range" = none) (h : DE X τ O a fun w O1 => ∃ n, w = .d (.int n) ∧ -(2 ^ 62) ≤ n ∧ n < 2 ^ 62 ∧ R (rangeD 0 n.toNat) O1) (hg : Gl X "range" := by rfl)
    (hs : starEach [a] X.env = [(false, eval a X.env)] := by rfl) : IterD X t (.Call (.Name "range" p) [a] [] pos) τ O R := by
  refine ⟨?_⟩
  intro σ Hr H Rr hE hS hR pins s I
  refine (pi_range1 hg hm pa_ta hs).run pins s σ H Rr I ?_
  refine (da_cons (PA := fun ws O1 => ∃ n, ws = [.d (.int n)] ∧ -(2 ^ 62) ≤ n ∧ n < 2 ^ 62 ∧ R (rangeD 0 n.toNat) O1) (h.mono fun w O' ⟨n, e, h1, h2, h3⟩ => da_nil ⟨n, by rw [e], h1, h2, h3⟩) (by rw [hs]; rfl)) σ Hr H _ hE hS fun vs H1 ⟨ws, O1, Hr1, ⟨n, hw, h1, h2, hr⟩, e1, s1, k1⟩ => ?_
  subst hw
  cases k1 with
  | cons k2 k3 =>
    cases k3
    cases k2
    refine ⟨n, rfl, h1, h2, hR _ H1 _ O1 Hr1 hr e1 s1 ?_⟩
    unfold ItOk
    have e : (rangeD 0 n.toNat).length = n.toNat := by simp [rangeD]
    rw [e]
    exact walk_range.mono (fun _ _ => trivial) fun i H x H' hi g y => by
      obtain ⟨y1, rfl⟩ := y
      refine ⟨.int (0 + (i : Nat)), ?_, .inl ⟨y1, .int _⟩⟩
      simp [rangeD, hi]
theorem it_range2 {t a b : Expr} {p pos : Pos} {R : List PyData → Own → Prop} (hm : X.mg "range" = none)
    (h : DE X τ O a fun w O1 => DE X τ O1 b fun w2 O2 => ∃ m n, w = .d (.int m) ∧ w2 = .d (.int n) ∧ -(2 ^ 62) ≤ m ∧ m < 2 ^ 62 ∧ -(2 ^ 62) ≤ n ∧ n < 2 ^ 62 ∧ R (rangeD m (n - m).toNat) O2) (hg : Gl X "range" := by rfl)
    (hs : starEach [a, b] X.env = [(false, eval a X.env), (false, eval b X.env)] := by rfl) (hs2 : starEach [b] X.env = [(false, eval b X.env)] := by rfl) : IterD X t (.Call (.Name "range" p) [a, b] [] pos) τ O R := by
  refine ⟨?_⟩
  intro σ Hr H Rr hE hS hR pins s I
  refine (pi_range2 hg hm pa_ta hs hs2).run pins s σ H Rr I ?_
  refine (da_cons (PA := fun ws O1 => ∃ m n, ws = [.d (.int m), .d (.int n)] ∧ -(2 ^ 62) ≤ m ∧ m < 2 ^ 62 ∧ -(2 ^ 62) ≤ n ∧ n < 2 ^ 62 ∧ R (rangeD m (n - m).toNat) O1) (h.mono fun w O' h' => da_cons (h'.mono fun w2 O2 ⟨m, n, e1, e2, h1, h2, h3, h4, h5⟩ => da_nil ⟨m, n, by rw [e1, e2], h1, h2, h3, h4, h5⟩) (by rw [hs2]; rfl)) (by rw [hs, hs2])) σ Hr H _ hE hS fun vs H1 ⟨ws, O1, Hr1, ⟨m, n, hw, h1, h2, h3, h4, hr⟩, e1, s1, k1⟩ => ?_
  subst hw
  cases k1 with
  | cons k2 k3 =>
    cases k3 with
    | cons k4 k5 =>
      cases k5
      cases k2
      cases k4
      refine ⟨m, n, rfl, ⟨h1, h2, h3, h4⟩, hR _ H1 _ O1 Hr1 hr e1 s1 ?_⟩
      unfold ItOk
      have e : (rangeD m (n - m).toNat).length = (n - m).toNat := by simp [rangeD]
      rw [e]
      exact walk_range.mono (fun _ _ => trivial) fun i H x H' hi g y => by
        obtain ⟨y1, rfl⟩ := y
        refine ⟨.int (m + (i : Nat)), ?_, .inl ⟨y1, .int _⟩⟩
        simp [rangeD, hi]
/-! ### for, while -/
theorem ds_for {t iter : Expr} (h : IterD X t iter τ O fun ds O1 => ∃ Iv : Nat → Tau → Own → Prop, Iv 0 τ O1 ∧
      (∀ (i : Nat) (d : PyData) (τ' : Tau) (O' : Own), ds[i]? = some d → Iv i τ' O' → DTg X τ' O' t (.d d) fun τ2 O2 => DSs X τ2 O2 body { nx := Iv (i + 1), ct := Iv (i + 1), bk := D.nx, rt := D.rt }) ∧ (∀ τ' O', Iv ds.length τ' O' → D.nx τ' O'))
    (hp : PassesOwn (model X.prog X.w) X.A X.env X.xe := by exact PassesOwn.never) (hc : X.calm = true := by rfl) (hs : ∀ x, foldedSetIterable iter X.env x = pure x := by intro _; rfl) : DS X τ O (.For t iter body [] pos) D := by
  refine ⟨?_⟩
  intro σ Hr H E hE hS hD pins s I
  refine (ps_for hp hc pi_ti pg_tg pss_tss hs).run pins s σ H E I ?_
  refine h σ Hr H _ hE hS fun J H1 ds O1 Hr1 ⟨Iv, h0, hstep, hend⟩ e1 s1 ok => ?_
  refine for_it ok (fun i σ' H' => NO X.K Hr1 (Iv i) σ' H') ⟨τ, O1, Hr1, h0, Same.refl _, s1, hE.mono e1⟩ (fun i σ' H' _ ⟨_, _, Hr', _, e, s', _⟩ => fun a o q => s'.ex a o (e a o q)) ?_ ?_
  · intro i x σ' H' H2 hi ⟨τ', O', Hr', p, e, s', k⟩ y
    obtain ⟨d, Hr2, hd, e2, s2, kd⟩ := y.sep e s'
    refine hstep i d τ' O' hd p x σ' Hr2 H2 _ (k.mono e2) s2 kd fun σ3 H3 ⟨τ3, O3, Hr3, p3, e3, s3, k3⟩ => ?_
    refine p3 σ3 Hr3 H3 _ k3 s3 ⟨fun σ4 H4 q => no_to ((e.trans e2).trans e3) q, fun v H4 q => hD.rt v H4 (po_to (((e1.trans e).trans e2).trans e3) q), fun σ4 H4 q => hD.nx σ4 H4 (no_to (((e1.trans e).trans e2).trans e3) q), fun σ4 H4 q => no_to ((e.trans e2).trans e3) q⟩
  · intro σ' H' ⟨τ', O', Hr', p, e, s', k⟩
    exact hD.nx _ _ ⟨τ', O', Hr', hend τ' O' p, e1.trans e, s', k⟩
theorem ds_while (Iv : Nat → Tau → Own → Prop) (h0 : ∃ m, Iv m τ O) (hs : ∀ m τ' O', Iv m τ' O' → DT X τ' O' c fun k O1 => if k = true then DSs X τ' O1 body { nx := fun τ2 O2 => ∃ m', m' < m ∧ Iv m' τ2 O2, ct := fun τ2 O2 => ∃ m', m' < m ∧ Iv m' τ2 O2, bk := D.nx, rt := D.rt } else D.nx τ' O1)
    (hp : PassesOwn (model X.prog X.w) X.A X.env X.xe := by exact PassesOwn.never) : DS X τ O (.While c body [] pos) D := by
  refine ⟨?_⟩
  intro σ Hr H E hE hS hD pins s I
  refine (ps_while hp pt_tt pss_tss).run pins s σ H E I ?_
  obtain ⟨m0, h0⟩ := h0
  refine ⟨fun m σ' H' => NO X.K Hr (Iv m) σ' H', ⟨m0, τ, O, Hr, h0, Same.refl _, hS, hE⟩, fun m σ' H' ⟨τ', O', Hr', p, e, s', k⟩ => ?_⟩
  refine hs m τ' O' p σ' Hr' H' _ k s' fun b H1 ⟨O1, Hr1, p1, e1, s1⟩ => ?_
  cases b with
  | true =>
    rw [if_pos rfl] at p1 ⊢
    refine ⟨fun σ2 H2 => ∃ m', m' < m ∧ NO X.K Hr (Iv m') σ2 H2, fun σ2 H2 q => q, p1 σ' Hr1 H1 _ (k.mono e1) s1 ⟨fun σ4 H4 ⟨τ4, O4, Hr4, ⟨m', hm, q⟩, e4, s4, k4⟩ => ⟨m', hm, τ4, O4, Hr4, q, (e.trans e1).trans e4, s4, k4⟩,
      fun v H4 q => hD.rt v H4 (po_to (e.trans e1) q), fun σ4 H4 q => hD.nx σ4 H4 (no_to (e.trans e1) q), fun σ4 H4 ⟨τ4, O4, Hr4, ⟨m', hm, q⟩, e4, s4, k4⟩ => ⟨m', hm, τ4, O4, Hr4, q, (e.trans e1).trans e4, s4, k4⟩⟩⟩
  | false =>
    rw [if_neg Bool.false_ne_true] at p1 ⊢
    exact hD.nx _ _ ⟨τ', O1, Hr1, p1, e.trans e1, s1, k.mono e1⟩
end
end DL

set_option Elab.async false
set_option linter.all false
set_option maxRecDepth 100000
set_option maxHeartbeats 2000000
namespace DL
open PySem PySem.Spec PyProof.Rows L2

/-! ### comprehensions -/
def wipeT (τ : Tau) : List Nat → Tau
  | [] => τ
  | v :: vs => (wipeT τ vs).set v none
theorem set_none_at {α : Type} {l : List (Option α)} {v i : Nat} {w : α} (h : (l.set v none)[i]? = some (some w)) : l[i]? = some (some w) ∧ i ≠ v := by
  rw [List.getElem?_set] at h
  by_cases e : v = i
  · rw [if_pos e] at h
    split at h <;> cases h
  · rw [if_neg e] at h
    exact ⟨h, fun q => e q.symm⟩
theorem En.forget {K : PySem.W.Frag} {Hr : Hp} {σ : L2.St} {τ : Tau} (h : En K Hr σ τ) (v : Nat) : En K Hr (σ.set v none) (τ.set v none) := by
  refine ⟨by rw [List.length_set, List.length_set]; exact h.len, fun i w q => ?_⟩
  obtain ⟨q1, q2⟩ := set_none_at q
  obtain ⟨u, a, b⟩ := h.at_ i w q1
  exact ⟨u, by rw [List.getElem?_set, if_neg (fun e => q2 e.symm)]; exact a, b⟩
theorem En.wiped {K : PySem.W.Frag} {Hr : Hp} {σ : L2.St} {τ : Tau} (h : En K Hr σ τ) : ∀ vs : List Nat, En K Hr (wipe σ vs) (wipeT τ vs)
  | [] => h
  | v :: vs => (En.wiped h vs).forget v
theorem set_comm' {σ : L2.St} {i j : Nat} {a b : Option V} (h : i ≠ j) : (σ.set i a).set j b = (σ.set j b).set i a := List.set_comm a b h
theorem wipe_set {j : Nat} {x : Option V} : ∀ {vs : List Nat} {σ : L2.St}, j ∈ vs → wipe (σ.set j x) vs = wipe σ vs
  | v :: vs, σ, h => by
    show (wipe (σ.set j x) vs).set v none = (wipe σ vs).set v none
    by_cases e : j ∈ vs
    · rw [wipe_set e]
    · have e2 : j = v := by
        rcases List.mem_cons.mp h with q | q
        · exact q
        · exact absurd q e
      subst e2
      have aux : ∀ (us : List Nat), j ∉ us → wipe (σ.set j x) us = (wipe σ us).set j x := by
        intro us
        induction us with
        | nil => intro _; rfl
        | cons u us ih =>
          intro hu
          show (wipe (σ.set j x) us).set u none = ((wipe σ us).set u none).set j x
          rw [ih (fun q => hu (List.mem_cons_of_mem _ q))]
          exact set_comm' (fun q => hu (by rw [q]; exact List.mem_cons_self))
      rw [aux vs e, List.set_set]
theorem wipe_wipe {vs : List Nat} : ∀ {us : List Nat} {σ : L2.St}, (∀ i ∈ us, i ∈ vs) → wipe (wipe σ us) vs = wipe σ vs
  | [], σ, _ => rfl
  | u :: us, σ, h => by
    show wipe ((wipe σ us).set u none) vs = wipe σ vs
    rw [wipe_set (h u List.mem_cons_self)]
    exact wipe_wipe fun i hi => h i (List.mem_cons_of_mem _ hi)
/-- the target is stored: from τ to τ' -/
def TgOk (K : PySem.W.Frag) (g : TG) (vs : List Nat) (d : PyData) (τ τ' : Tau) : Prop :=
  ∀ (v : V) (σ : L2.St) (Hr H : Hp) (Q : L2.St → Hp → Prop), En K Hr σ τ → Same Hr H → Dv K Hr v d → (∀ σ', En K Hr σ' τ' → (∀ σ0, σ = wipe σ0 vs → wipe σ' vs = wipe σ0 vs) → Q σ' H) → g v σ H Q
theorem tgok_name {K : PySem.W.Frag} {vs : List Nat} {d : PyData} {τ : Tau} (j : Nat) (hj : j ∈ vs) : TgOk K (gName j) vs d τ (τ.set j (some (.d d))) :=
  fun v σ Hr H Q hE e k q => q _ (hE.set j k) fun σ0 h => by
    subst h
    rw [wipe_set hj]
    exact wipe_wipe fun _ h => h
theorem tgok_pair {K : PySem.W.Frag} {vs : List Nat} {d1 d2 : PyData} {τ : Tau} (i j : Nat) (hi : i ∈ vs) (hj : j ∈ vs) : TgOk K (gTup K 2 (gCons (gName i) (gCons (gName j) gNil))) vs (.tuple [d1, d2]) τ ((τ.set i (some (.d d1))).set j (some (.d d2))) :=
  fun v σ Hr H Q hE e k q => by
    cases k with
    | tup k1 k2 =>
      cases k2 with
      | cons a1 b1 =>
        cases b1 with
        | cons a2 b2 =>
          cases b2
          refine ⟨_, _, rfl, same_t e k1, rfl, _, _, rfl, _, _, rfl, rfl, q _ ((hE.set i (w := .d d1) a1).set j (w := .d d2) a2) fun σ0 h => ?_⟩
          subst h
          rw [wipe_set hj, wipe_set hi]
          exact wipe_wipe fun _ h => h

/-- a clause's tests -/
def tts (X : Cx) (ifs : List Expr) : TT := fun σ H Q => ∀ (pins : List (Addr × Obj)) (s : Shared), Inv X pins σ H s →
    wpAny (model X.prog X.w) X.A (forIn ifs true fun c r => if r = true then do let ok ← isTrue c X.env (eval c X.env); pure (ForInStep.yield ok) else pure (ForInStep.yield r)) (TP X pins σ Q) X.xe s
def DTsR (X : Cx) (τ : Tau) (O : Own) (ifs : List Expr) (P : Bool → Own → Prop) : Prop :=
  ∀ (σ : L2.St) (Hr H : Hp) (Q : Bool → Hp → Prop), En X.K Hr σ τ → Sep X.K Hr O H → (∀ v H', TQ X.K Hr P v H' → Q v H') → tts X ifs σ H Q
structure DTs (X : Cx) (τ : Tau) (O : Own) (ifs : List Expr) (P : Bool → Own → Prop) : Prop where
  go : DTsR X τ O ifs P
instance {X : Cx} {τ : Tau} {O : Own} {ifs : List Expr} {P : Bool → Own → Prop} : CoeFun (DTs X τ O ifs P) (fun _ => DTsR X τ O ifs P) := ⟨DTs.go⟩
theorem dts_nil {X : Cx} {τ : Tau} {O : Own} {P : Bool → Own → Prop} (h : P true O) : DTs X τ O [] P := ⟨fun σ Hr H Q hE hS hQ pins s I => pts_nil.run pins s σ H Q I (hQ _ _ ⟨O, Hr, h, Same.refl _, hS⟩)⟩
theorem dts_one {X : Cx} {τ : Tau} {O : Own} {P : Bool → Own → Prop} {c : Expr} (h : DT X τ O c P) : DTs X τ O [c] P := ⟨fun σ Hr H Q hE hS hQ pins s I => (pts_one pt_tt).run pins s σ H Q I (h σ Hr H Q hE hS hQ)⟩
section
variable {X : Cx} {τ : Tau} {O : Own} {P : W → Own → Prop} {D : DEn} {elt t iter : Expr} {ifs : List Expr} {scope : Scope} {own : List (Str × Nat)} {pos spos : Pos} {g : TG}
/-- the context of a comprehension's block -/
abbrev blk (X : Cx) (scope : Scope) (s : Shared) (H : Hp) (C : Addr) (cl : List (Str × Addr)) (fp : List Addr) : Cx := X.blk s H scope (compEnvC scope cl C X.env) fp
/-- what a comprehension asks: Iv by the turn, what was made so far, what is owned; Md: what the tests leave -/
def LcD (X : Cx) (τ : Tau) (O : Own) (elt : Expr) (ifs : List Expr) (scope : Scope) (vs : List Nat) (g : TG) (P : Addr → List PyData → Own → Prop) (ds : List PyData) : Prop :=
  ∃ Iv : Nat → List PyData → Own → Prop, Iv 0 [] O ∧
    (∀ (i : Nat) (d : PyData) (acc : List PyData) (O' : Own), ds[i]? = some d → Iv i acc O' → ∃ τ2, TgOk X.K g vs d (wipeT τ vs) τ2 ∧
      ∀ (p : Addr), ∃ Md : Bool → Own → Prop,
        (∀ (s : Shared) (H : Hp) (C : Addr) (cl : List (Str × Addr)) (fp : List Addr), DTs (blk X scope s H C cl fp) τ2 ((p, .l acc) :: O') ifs Md) ∧
        (∀ (s : Shared) (H : Hp) (C : Addr) (cl : List (Str × Addr)) (fp : List Addr) (O3 : Own), Md true O3 → DE (blk X scope s H C cl fp) τ2 O3 elt fun w O4 => ∃ y O5, w = .d y ∧ O4 = (p, .l acc) :: O5 ∧ acc.length < sizeLine ∧ Iv (i + 1) (acc ++ [y]) O5) ∧
        (∀ O3, Md false O3 → ∃ O5, O3 = (p, .l acc) :: O5 ∧ Iv (i + 1) acc O5)) ∧
    ∀ (acc : List PyData) (O' : Own) (p : Addr), Iv ds.length acc O' → P p acc O'
abbrev tIfs (X : Cx) (scope : Scope) (ifs : List Expr) : TT := fun σ H Q => ∀ (s : Shared) (H' : Hp) (C : Addr) (cl : List (Str × Addr)) (fp : List Addr), tts (blk X scope s H' C cl fp) ifs σ H Q
abbrev tElt (X : Cx) (scope : Scope) (elt : Expr) : TE := fun σ H Q => ∀ (s : Shared) (H' : Hp) (C : Addr) (cl : List (Str × Addr)) (fp : List Addr), te (blk X scope s H' C cl fp) elt σ H Q
theorem lc_data {vs : List Nat} {PL : Addr → List PyData → Own → Prop} (h : IterD X t iter τ O fun ds O1 => LcD X τ O1 elt ifs scope vs g PL ds)
    {σ : L2.St} {Hr H : Hp} {Q : VK} (hE : En X.K Hr σ τ) (hS : Sep X.K Hr O H) (hQ : ∀ v H', PO X.K Hr (fun w O' => ∃ p acc O2, w = .r (.ref p) ∧ O' = (p, .l acc) :: O2 ∧ PL p acc O2) v H' → Q v H') :
    tLc (ti X t iter) g (tIfs X scope ifs) (tElt X scope elt) vs σ H Q := by
  refine h σ Hr H _ hE hS fun J H1 ds O1 Hr1 ⟨Iv, h0, hstep, hend⟩ e1 s1 ok => ?_
  intro Dl hD
  refine lc_it (g := g) (vs := vs) (σ := σ) (tt := tIfs X scope ifs) (te := tElt X scope elt) (Qd := fun H' => Q (.ref Dl) H') ok (fun i H' => ∃ (acc : List PyData) (O' : Own) (Hr' : Hp), Iv i acc O' ∧ Same Hr1 Hr' ∧ Sep X.K Hr' ((Dl, .l acc) :: O') H') ⟨[], O1, Hr1, h0, Same.refl _, s1.newOwn hD ⟨[], upd_same, .nil⟩⟩ (fun i H' _ ⟨_, _, Hr', _, e, s'⟩ => fun a o q => s'.ex a o (e a o q)) ?_ ?_
  · intro i x H2 H3 hi ⟨acc, O', Hr', hI, e, s'⟩ y
    obtain ⟨d, Hr2, hd, e2, s2, kd⟩ := y.sep e s'
    obtain ⟨τ2, htg, hb⟩ := hstep i d acc O' hd hI
    have e3 : Same Hr Hr2 := (e1.trans e).trans e2
    refine htg x (wipe σ vs) Hr2 H3 _ ((hE.mono e3).wiped vs) s2.ex kd fun σ' hE' hw => ⟨hw σ rfl, ?_⟩
    obtain ⟨Md, m1, m2, m3⟩ := hb Dl
    intro s0 H0 C cl fp
    refine m1 s0 H0 C cl fp σ' Hr2 H3 _ hE' s2 fun k H4 ⟨O4, Hr4, p4, e4, s4⟩ => ?_
    cases k with
    | true =>
      rw [if_pos rfl]
      intro s0 H0 C cl fp
      refine m2 s0 H0 C cl fp O4 p4 σ' Hr4 H4 _ (hE'.mono e4) s4 fun v H5 ⟨w, O5, Hr5, ⟨y, O6, hw, ho, hz, hI5⟩, e5, s5, k5⟩ => ?_
      subst hw ho
      obtain ⟨us, u1, u2⟩ := s5.cell (j := 0) rfl
      exact ⟨us, u1, by rw [u2.len]; exact hz, acc ++ [y], O6, Hr5, hI5, ((e.trans e2).trans e4).trans e5, s5.put (j := 0) rfl ⟨_, upd_same, u2.snoc k5⟩⟩
    | false =>
      rw [if_neg Bool.false_ne_true]
      obtain ⟨O5, q, hI5⟩ := m3 O4 p4
      subst q
      exact ⟨acc, O5, Hr4, hI5, (e.trans e2).trans e4, s4⟩
  · intro H' ⟨acc, O', Hr', hI, e, s'⟩
    exact hQ _ _ ⟨_, _, Hr', ⟨Dl, acc, O', rfl, rfl, hend acc O' Dl hI⟩, e1.trans e, s', rfl⟩
/-- [elt for t in iter if ..], the new list owned -/
theorem de_lcO (own : List (Str × Nat)) (g : TG) (hN : X.N.Nodup) (ok : BlkOk X.N X.env.scope scope own) (hg : ∀ (s : Shared) (H : Hp) (C : Addr) (cl : List (Str × Addr)) (fp : List Addr), PG (blk X scope s H C cl fp) t g)
    (h : IterD X t iter τ O fun ds O1 => LcD X τ O1 elt ifs scope (own.map (·.2)) g (fun p acc O2 => P (.r (.ref p)) ((p, .l acc) :: O2)) ds) (hc : X.calm = true := by rfl) (hs : ∀ x, foldedSetIterable iter X.env x = pure x := by intro _; rfl) :
    DE X τ O (.ListComp elt [⟨t, iter, ifs, 0⟩] scope pos) P := by
  refine ⟨?_⟩
  intro σ Hr H Q hE hS hQ pins s I
  refine (pe_lc (own := own) (tt := tIfs X scope ifs) (te := tElt X scope elt) hc hN pi_ti ok hg (fun s H C cl fp => ⟨fun pins s1 σ H1 Q I h => h s H C cl fp pins s1 I⟩) (fun s H C cl fp => ⟨fun pins s1 σ H1 Q I h => h s H C cl fp pins s1 I⟩) hs).run pins s σ H Q I ?_
  exact lc_data h hE hS fun v H' ⟨w, O', Hr', ⟨p, acc, O2, hw, ho, hP⟩, e, s', k⟩ => hQ v H' ⟨w, O', Hr', by rw [hw, ho]; exact hP, e, s', k⟩
theorem de_lc (own : List (Str × Nat)) (g : TG) (hN : X.N.Nodup) (ok : BlkOk X.N X.env.scope scope own) (hg : ∀ (s : Shared) (H : Hp) (C : Addr) (cl : List (Str × Addr)) (fp : List Addr), PG (blk X scope s H C cl fp) t g)
    (h : IterD X t iter τ O fun ds O1 => LcD X τ O1 elt ifs scope (own.map (·.2)) g (fun _ acc O2 => P (.d (.list acc)) O2) ds) (hc : X.calm = true := by rfl) (hs : ∀ x, foldedSetIterable iter X.env x = pure x := by intro _; rfl) :
    DE X τ O (.ListComp elt [⟨t, iter, ifs, 0⟩] scope pos) P := by
  refine de_kp (de_lcO own g hN ok hg ⟨fun σ Hr H Rr hE hS hR => h σ Hr H Rr hE hS fun J H1 ds O1 Hr1 ⟨Iv, a, b, c⟩ e s k => hR J H1 ds O1 Hr1 ⟨Iv, a, b, fun acc O' p q => .inr ⟨p, acc, O', rfl, rfl, c acc O' p q⟩⟩ e s k⟩ hc hs)
/-- name = [..], the list owned -/
theorem ds_setLcO (i : Nat) (own : List (Str × Nat)) (g : TG) {y : Str} {py : Pos} (hN : X.N.Nodup) (ok : BlkOk X.N X.env.scope scope own) (hg : ∀ (s : Shared) (H : Hp) (C : Addr) (cl : List (Str × Addr)) (fp : List Addr), PG (blk X scope s H C cl fp) t g)
    (h : IterD X t iter τ O fun ds O1 => LcD X τ O1 elt ifs scope (own.map (·.2)) g (fun p acc O2 => D.nx (τ.set i (some (.r (.ref p)))) ((p, .l acc) :: O2)) ds)
    (hsw : swapsWith (.ListComp elt [⟨t, iter, ifs, 0⟩] scope pos) (some (.Name y py)) spos.line X.env = pure true := by exact sw_true rfl rfl rfl (by decide +kernel))
    (hc : X.calm = true := by rfl) (hs : ∀ x, foldedSetIterable iter X.env x = pure x := by intro _; rfl) (hy : X.N[i]? = some y := by rfl) (hyl : X.env.scope.names.lookup y = some .local := by rfl) :
    DS X τ O (.Assign [.Name y py] (.ListComp elt [⟨t, iter, ifs, 0⟩] scope pos) spos) D := by
  refine ⟨?_⟩
  intro σ Hr H E hE hS hD pins s I
  refine (ps_setLc (own := own) (tt := tIfs X scope ifs) (te := tElt X scope elt) hc hN hy hyl hsw pi_ti ok hg (fun s H C cl fp => ⟨fun pins s1 σ H1 Q I h => h s H C cl fp pins s1 I⟩) (fun s H C cl fp => ⟨fun pins s1 σ H1 Q I h => h s H C cl fp pins s1 I⟩) hs).run pins s σ H E I ?_
  exact lc_data h hE hS fun v H' ⟨w, O', Hr', ⟨p, acc, O2, hw, ho, hP⟩, e, s', k⟩ => hD.nx _ H' ⟨_, _, Hr', hP, e, by rw [← ho]; exact s', (hE.mono e).set i (v := v) (w := .r (.ref p)) (by rw [hw] at k; exact k)⟩
theorem ds_setLc (i : Nat) (own : List (Str × Nat)) (g : TG) {y : Str} {py : Pos} (hN : X.N.Nodup) (ok : BlkOk X.N X.env.scope scope own) (hg : ∀ (s : Shared) (H : Hp) (C : Addr) (cl : List (Str × Addr)) (fp : List Addr), PG (blk X scope s H C cl fp) t g)
    (h : IterD X t iter τ O fun ds O1 => LcD X τ O1 elt ifs scope (own.map (·.2)) g (fun _ acc O2 => D.nx (τ.set i (some (.d (.list acc)))) O2) ds)
    (hsw : swapsWith (.ListComp elt [⟨t, iter, ifs, 0⟩] scope pos) (some (.Name y py)) spos.line X.env = pure true := by exact sw_true rfl rfl rfl (by decide +kernel))
    (hc : X.calm = true := by rfl) (hs : ∀ x, foldedSetIterable iter X.env x = pure x := by intro _; rfl) (hy : X.N[i]? = some y := by rfl) (hyl : X.env.scope.names.lookup y = some .local := by rfl) :
    DS X τ O (.Assign [.Name y py] (.ListComp elt [⟨t, iter, ifs, 0⟩] scope pos) spos) D := by
  refine ⟨?_⟩
  intro σ Hr H E hE hS hD pins s I
  refine (ps_setLc (own := own) (tt := tIfs X scope ifs) (te := tElt X scope elt) hc hN hy hyl hsw pi_ti ok hg (fun s H C cl fp => ⟨fun pins s1 σ H1 Q I h => h s H C cl fp pins s1 I⟩) (fun s H C cl fp => ⟨fun pins s1 σ H1 Q I h => h s H C cl fp pins s1 I⟩) hs).run pins s σ H E I ?_
  exact lc_data (PL := fun _ acc O2 => D.nx (τ.set i (some (.d (.list acc)))) O2) h hE hS fun v H' ⟨w, O', Hr', ⟨p, acc, O2, hw, ho, hP⟩, e, s', k⟩ => by
    subst hw ho
    obtain ⟨Hr2, e2, s2, d⟩ := s'.keep
    have k' : v = .ref p := k
    subst k'
    exact hD.nx _ H' ⟨_, _, Hr2, hP, e.trans e2, s2, (hE.mono (e.trans e2)).set i (v := .ref p) (w := .d (.list acc)) d⟩
/-- a turn that changes nothing owned: f tells what an item gives -/
theorem lcd_pure {vs : List Nat} {PL : Addr → List PyData → Own → Prop} {ds : List PyData} (f : PyData → Option PyData) (hz : ds.length < sizeLine)
    (hb : ∀ (i : Nat) (d : PyData), ds[i]? = some d → ∃ τ2, TgOk X.K g vs d (wipeT τ vs) τ2 ∧ ∃ k : Bool, (k = false → f d = none) ∧ ∀ (p : Addr) (acc : List PyData) (s : Shared) (H : Hp) (C : Addr) (cl : List (Str × Addr)) (fp : List Addr),
      DTs (blk X scope s H C cl fp) τ2 ((p, .l acc) :: O) ifs (fun b O3 => b = k ∧ O3 = (p, .l acc) :: O) ∧
      (k = true → DE (blk X scope s H C cl fp) τ2 ((p, .l acc) :: O) elt fun w O4 => O4 = (p, .l acc) :: O ∧ ∃ y, w = .d y ∧ f d = some y))
    (he : ∀ p, PL p (ds.filterMap f) O) : LcD X τ O elt ifs scope vs g PL ds := by
  refine ⟨fun i acc O' => acc = (ds.take i).filterMap f ∧ O' = O, ⟨rfl, rfl⟩, fun i d acc O' hd ⟨ha, ho⟩ => ?_, fun acc O' p ⟨ha, ho⟩ => ?_⟩
  · subst ho
    obtain ⟨τ2, h1, k, hf, h2⟩ := hb i d hd
    have hi : i < ds.length := (List.getElem?_eq_some_iff.mp hd).1
    have hl : acc.length < sizeLine := by
      rw [ha]
      refine Nat.lt_of_le_of_lt (List.length_filterMap_le f _) (Nat.lt_of_le_of_lt (List.length_take_le' i ds) hz)
    have hn : (ds.take (i + 1)).filterMap f = (ds.take i).filterMap f ++ [d].filterMap f := by
      rw [List.take_succ, hd, List.filterMap_append]
      rfl
    refine ⟨τ2, h1, fun p => ⟨fun b O3 => b = k ∧ O3 = (p, .l acc) :: O', fun s H C cl fp => (h2 p acc s H C cl fp).1, ?_, ?_⟩⟩
    · intro s H C cl fp O3 ⟨hk, h3⟩
      subst h3
      exact ((h2 p acc s H C cl fp).2 hk.symm).mono fun w O4 ⟨q, y, hw, hy⟩ => ⟨y, O', hw, q, hl, by rw [hn, ha]; simp [hy], rfl⟩
    · intro O3 ⟨hk, h3⟩
      refine ⟨O', h3, ?_, rfl⟩
      rw [hn, ha]
      simp [hf hk.symm]
  · subst ho
    rw [ha, List.take_length]
    exact he p
end
end DL

set_option Elab.async false
set_option linter.all false
set_option maxRecDepth 100000
set_option maxHeartbeats 2000000
namespace DL
open PySem PySem.Spec PyProof.Rows L2

/-! ### defs -/
/-- what a def promises, at the level of data: pre tells of the arguments, of what is owned, and of what is wanted then -/
abbrev Pre := List W → Own → (W → Own → Prop) → Prop
def spD (K : PySem.W.Frag) (n : Nat) (pre : Pre) : Sp := fun vs H Q _ => ∃ (ws : List W) (O : Own) (Hr : Hp) (P : W → Own → Prop), Sep K Hr O H ∧ WOks K Hr vs ws ∧ ws.length = n ∧ pre ws O P ∧ ∀ v H', PO K Hr P v H' → Q v H'
theorem en_start {K : PySem.W.Frag} {Hr : Hp} {N : List Str} : ∀ {vs : List V} {ws : List W}, WOks K Hr vs ws → En K Hr (L2.start N vs) (ws.map some ++ List.replicate (N.length - ws.length) none) := by
  intro vs ws h
  have hl := h.len
  refine ⟨by unfold L2.start; simp [hl], fun i w q => ?_⟩
  unfold L2.start
  have at_ : ∀ {vs : List V} {ws : List W}, WOks K Hr vs ws → ∀ {i : Nat} {w : W}, ws[i]? = some w → ∃ v, vs[i]? = some v ∧ WOk K Hr v w := by
    intro vs ws h
    induction h with
    | nil => intro i w q; simp at q
    | cons a b ih =>
      intro i w q
      cases i with
      | zero => simp at q; subst q; exact ⟨_, rfl, a⟩
      | succ i => exact ih (i := i) (by simpa using q)
  by_cases hi : i < ws.length
  · rw [List.getElem?_append_left (by simpa using hi)] at q
    rw [List.getElem?_map] at q
    cases e : ws[i]? with
    | none =>
      rw [e] at q
      cases q
    | some u =>
      rw [e] at q
      cases q
      obtain ⟨v, hv, kv⟩ := at_ h e
      refine ⟨v, ?_, kv⟩
      rw [List.getElem?_append_left (by simp [hl, hi]), List.getElem?_map, hv]
      rfl
  · rw [List.getElem?_append_right (by simpa using hi)] at q
    rw [List.getElem?_replicate] at q
    split at q <;> cases q
section
variable {P : Program} {w : World} {K : PySem.W.Frag} {mg : Str → Option Value} {base : Heap}
/-- a def of the text keeps its promise, by its body -/
theorem fn_dl {x qual : Str} {st : Stmt} {f : Addr} {fd : FuncData} {N ps : List Str} {k : Nat} {pre : Pre} (F : Fun K x qual st f fd) (S : FnScope N ps (defScope st))
    (hbody : ∀ (cdv : Value) (A : Around) (outer : List Env) (s : Shared) (H : Hp) (E : XK), Room k (A.deeper (envOfC qual (defScope st) s.heap.objs.size f cdv)) → ∀ (ws : List W) (O : Own) (Q : W → Own → Prop), ws.length = ps.length → pre ws O Q →
      DSs (cxOf CX0 P w K mg base N qual (defScope st) f cdv A outer s H E).nox (ws.map some ++ List.replicate (N.length - ws.length) none) O (defBody st) { nx := fun _ O' => Q (.d .none) O', rt := Q }) :
    FnOk P w K mg base CX0 (k + 1) f fd ps (spD K ps.length pre) := by
  refine F.ok S (fun vs H Q E ⟨ws, O, Hr, P, _, hw, hl, _⟩ => hw.len.trans hl) (fun cdv A outer s H vs Q E hr ⟨ws, O, Hr, PP, hS, hw, hl, hp, hq⟩ => ⟨tss _ _, pss_tss, ?_⟩)
  exact hbody cdv A outer s H E hr ws O PP hl hp (L2.start N vs) Hr H _ (en_start hw) hS
    ⟨fun σ H' ⟨τ', O', Hr', p, e, s', k⟩ => hq _ _ ⟨_, O', Hr', p, e, s', .non⟩, hq, fun _ _ ⟨_, _, _, p, _⟩ => p.elim, fun _ _ ⟨_, _, _, p, _⟩ => p.elim⟩
/-- a def, as its callers know it -/
structure Def (P : Program) (w : World) (K : PySem.W.Frag) (mg : Str → Option Value) (base : Heap) (k : Nat) (x : Str) (n : Nat) (pre : Pre) : Prop where
  ex : ∃ (f : Addr) (fd : FuncData) (ps : List Str), FnOk P w K mg base CX0 k f fd ps (spD K n pre) ∧ mg x = some (.ref f) ∧ PySem.W.keepIn K (.ref f) = true ∧ Binds K fd ps []
theorem Def.imp {k : Nat} {x : Str} {n : Nat} {pre pre' : Pre} (d : Def P w K mg base k x n pre) (h : ∀ ws O Q, ws.length = n → pre' ws O Q → pre ws O Q) : Def P w K mg base k x n pre' := by
  obtain ⟨f, fd, ps, F, h1, h2, h3⟩ := d.ex
  exact ⟨f, fd, ps, F.imp fun vs H Q E ⟨ws, O, Hr, PP, hS, hw, hl, hp, hq⟩ => ⟨ws, O, Hr, PP, hS, hw, hl, h ws O PP hl hp, hq⟩, h1, h2, h3⟩
end
section
variable {X : Cx} {τ : Tau} {O : Own} {P : W → Own → Prop} {pos p : Pos} {x : Str} {e : Expr} {es : List Expr} {k n : Nat} {pre : Pre}
theorem de_call (F : Def X.prog X.w X.K X.mg X.base k x n pre) (hr : Room k X.A) (h : DA X τ O (e :: es) fun ws O1 => ws.length = n ∧ pre ws O1 P) (hg : Gl X x := by rfl) (hdb : (x == ("__debug__" : Str)) = false := by decide)
    (he : starEach (e :: es) X.env = (false, eval e X.env) :: starEach es X.env := by rfl) (hpl : (backTo pos (starEach es X.env)).any (·.1) = false := by rfl) : DE X τ O (.Call (.Name x p) (e :: es) [] pos) P := by
  refine ⟨?_⟩
  intro σ Hr H Q hE hS hQ pins s I
  obtain ⟨f, fd, ps, F, hm, hk, hb⟩ := F.ex
  refine (pe_call F hr hg hm hk hb .nil (pass0 (X := X)) pa_ta hdb he hpl).run pins s σ H Q I ?_
  refine h σ Hr H _ hE hS fun vs H1 ⟨ws, O1, Hr1, ⟨hl, hp⟩, e1, s1, k1⟩ => ?_
  exact ⟨ws, O1, Hr1, P, s1, by rw [List.append_nil]; exact k1, hl, hp, fun v H' q => hQ v H' (po_to e1 q)⟩
theorem de_call0 (F : Def X.prog X.w X.K X.mg X.base k x 0 pre) (hr : Room k X.A) (h : pre [] O P) (hg : Gl X x := by rfl) (hdb : (x == ("__debug__" : Str)) = false := by decide) : DE X τ O (.Call (.Name x p) [] [] pos) P := by
  refine ⟨?_⟩
  intro σ Hr H Q hE hS hQ pins s I
  obtain ⟨f, fd, ps, F, hm, hk, hb⟩ := F.ex
  refine (pe_call0 F hr hg hm hk hb .nil (pass0 (X := X)) hdb).run pins s σ H Q I ?_
  exact ⟨[], O, Hr, P, hS, .nil, rfl, h, hQ⟩
end

/-! ### zip, enumerate, to a written tuple of names -/
section
variable {X : Cx} {τ : Tau} {O : Own} {R : List PyData → Own → Prop}
def zipD (xs ys : List PyData) : List PyData := List.zipWith (fun a b => .tuple [a, b]) xs ys
def enumD (xs : List PyData) : List PyData := (List.range xs.length).map fun i => .tuple [.int (i : Nat), xs.getD i .none]
theorem gives_pair {K : PySem.W.Frag} {Hr H H' : Hp} {xs ys : Nat → Option V} {ds : List PyData} {i : Nat} {v : V} (y : YPair xs ys i H v H')
    (h : ∀ a b, xs i = some a → ys i = some b → ∃ d e, ds[i]? = some (.tuple [d, e]) ∧ Dv K Hr a d ∧ Dv K Hr b e) : Gives K Hr ds i H v H' := by
  obtain ⟨T, a, b, h1, h2, h3, h4, h5⟩ := y
  obtain ⟨d, e, hd, ka, kb⟩ := h a b h4 h5
  exact ⟨_, hd, .inr ⟨T, [a, b], [d, e], h1, h2, h3, rfl, .cons ka (.cons kb .nil)⟩⟩
theorem it_enum {e : Expr} {elts : List Expr} {kk : Nat} {p pos tpos : Pos} (hm : X.mg "enumerate" = none) (h : DE X τ O e fun w O1 => ∃ ds, w = .d (.list ds) ∧ R (enumD ds) O1) (hg : Gl X "enumerate" := by rfl)
    (hs : starEach [e] X.env = [(false, eval e X.env)] := by rfl) : IterD X (.Tuple elts kk tpos) (.Call (.Name "enumerate" p) [e] [] pos) τ O R := by
  refine ⟨?_⟩
  intro σ Hr H Rr hE hS hR pins s I
  refine (pi_enum hg hm pa_ta hs).run pins s σ H Rr I ?_
  refine (da_cons (PA := fun ws O1 => ∃ ds, ws = [.d (.list ds)] ∧ R (enumD ds) O1) (h.mono fun w O' ⟨n, e, h1⟩ => da_nil ⟨n, by rw [e], h1⟩) (by rw [hs]; rfl)) σ Hr H _ hE hS fun vs H1 ⟨ws, O1, Hr1, ⟨ds, hw, hr⟩, e1, s1, k1⟩ => ?_
  subst hw
  cases k1 with
  | cons k2 k3 =>
    cases k3
    cases k2 with
    | lst ha da =>
      refine ⟨_, _, rfl, SqL.of (s1.ex _ _ ha), hR _ H1 _ O1 Hr1 hr e1 s1 ?_⟩
      unfold ItOk
      have el : (enumD ds).length = ds.length := by simp [enumD]
      rw [el, ← da.len]
      exact (walk_enum (K := X.K)).mono (fun H g => SqL.of (g _ _ ha)) fun i H x H' hi g y => gives_pair y fun a b h1 h2 => by
        cases h1
        obtain ⟨d, hd, kd⟩ := da.getV h2
        refine ⟨.int (i : Nat), d, ?_, .int _, kd⟩
        have hi' : i < ds.length := by rw [← da.len]; exact hi
        unfold enumD
        rw [List.getElem?_map, List.getElem?_range hi']
        simp [List.getD, hd]
theorem it_zipL {a b : Expr} {elts : List Expr} {kk : Nat} {p pos tpos : Pos} (hm : X.mg "zip" = none)
    (h : DE X τ O a fun w O1 => DE X τ O1 b fun w2 O2 => ∃ xs ys, w = .d (.list xs) ∧ w2 = .d (.list ys) ∧ R (zipD xs ys) O2) (hg : Gl X "zip" := by rfl)
    (hs : starEach [a, b] X.env = (false, eval a X.env) :: starEach [b] X.env := by rfl) (hs2 : starEach [b] X.env = (false, eval b X.env) :: starEach [] X.env := by rfl) (hpl : (backTo pos (starEach [b] X.env)).any (·.1) = false := by rfl) :
    IterD X (.Tuple elts kk tpos) (.Call (.Name "zip" p) [a, b] [] pos) τ O R := by
  refine ⟨?_⟩
  intro σ Hr H Rr hE hS hR pins s I
  refine (RZ.pi_zipA hg hm pa_ta hs hpl).run pins s σ H Rr I ?_
  refine (da_cons (PA := fun ws O1 => ∃ xs ys, ws = [.d (.list xs), .d (.list ys)] ∧ R (zipD xs ys) O1) (h.mono fun w O' h' => da_cons (h'.mono fun w2 O2 ⟨xs, ys, e1, e2, h1⟩ => da_nil ⟨xs, ys, by rw [e1, e2], h1⟩) hs2) hs) σ Hr H _ hE hS fun vs H1 ⟨ws, O1, Hr1, ⟨xs, ys, hw, hr⟩, e1, s1, k1⟩ => ?_
  subst hw
  cases k1 with
  | cons k2 k3 =>
    cases k3 with
    | cons k4 k5 =>
      cases k5
      cases k2 with
      | lst ha da =>
        cases k4 with
        | lst hb db =>
          refine ⟨_, _, _, _, rfl, .inl ⟨SqL.of (s1.ex _ _ ha), SqL.of (s1.ex _ _ hb), hR _ H1 _ O1 Hr1 hr e1 s1 ?_⟩⟩
          unfold ItOk
          have el : (zipD xs ys).length = min xs.length ys.length := by simp [zipD]
          rw [el]
          exact (walk_zip (K := X.K) (by rw [da.len, db.len])).mono (fun H g => ⟨SqL.of (g _ _ ha), SqL.of (g _ _ hb)⟩) fun i H x H' hi g y => gives_pair y fun a b h1 h2 => by
            obtain ⟨d, hd, kd⟩ := da.getV h1
            obtain ⟨e, he, ke⟩ := db.getV h2
            refine ⟨d, e, ?_, kd, ke⟩
            unfold zipD
            rw [List.getElem?_zipWith, hd, he]
theorem walk_zipT {K : PySem.W.Frag} {a b : Addr} {xs ys : List V} {n : Nat} (hn : n = min xs.length ys.length) : Walk (RZ.ItzT K a b) n (fun H => SqT K H a xs ∧ SqT K H b ys) (YPair (fun i => xs[i]?) (fun i => ys[i]?)) := by
  subst hn
  refine ⟨fun i _ hi q => ?_, fun _ q => ⟨xs, ys, q.1, q.2, by omega⟩, fun i H v H' _ q y => ?_⟩
  · have h1 : i < xs.length := by omega
    have h2 : i < ys.length := by omega
    exact ⟨xs, ys, xs[i], ys[i], q.1, q.2, by simp [h1], by simp [h2]⟩
  · obtain ⟨T, x, z, h1, h2, h3, h4, h5⟩ := y
    exact ⟨T, x, z, h1, h2, h3, h4 xs q.1, h5 ys q.2⟩
theorem it_zipT {a b : Expr} {elts : List Expr} {kk : Nat} {p pos tpos : Pos} (hm : X.mg "zip" = none)
    (h : DE X τ O a fun w O1 => DE X τ O1 b fun w2 O2 => ∃ xs ys, w = .d (.tuple xs) ∧ w2 = .d (.tuple ys) ∧ R (zipD xs ys) O2) (hg : Gl X "zip" := by rfl)
    (hs : starEach [a, b] X.env = (false, eval a X.env) :: starEach [b] X.env := by rfl) (hs2 : starEach [b] X.env = (false, eval b X.env) :: starEach [] X.env := by rfl) (hpl : (backTo pos (starEach [b] X.env)).any (·.1) = false := by rfl) :
    IterD X (.Tuple elts kk tpos) (.Call (.Name "zip" p) [a, b] [] pos) τ O R := by
  refine ⟨?_⟩
  intro σ Hr H Rr hE hS hR pins s I
  refine (RZ.pi_zipA hg hm pa_ta hs hpl).run pins s σ H Rr I ?_
  refine (da_cons (PA := fun ws O1 => ∃ xs ys, ws = [.d (.tuple xs), .d (.tuple ys)] ∧ R (zipD xs ys) O1) (h.mono fun w O' h' => da_cons (h'.mono fun w2 O2 ⟨xs, ys, e1, e2, h1⟩ => da_nil ⟨xs, ys, by rw [e1, e2], h1⟩) hs2) hs) σ Hr H _ hE hS fun vs H1 ⟨ws, O1, Hr1, ⟨xs, ys, hw, hr⟩, e1, s1, k1⟩ => ?_
  subst hw
  cases k1 with
  | cons k2 k3 =>
    cases k3 with
    | cons k4 k5 =>
      cases k5
      cases k2 with
      | tup ha da =>
        cases k4 with
        | tup hb db =>
          refine ⟨_, _, _, _, rfl, .inr ⟨same_t s1.ex ha, same_t s1.ex hb, hR _ H1 _ O1 Hr1 hr e1 s1 ?_⟩⟩
          unfold ItOk
          have el : (zipD xs ys).length = min xs.length ys.length := by simp [zipD]
          rw [el]
          exact (walk_zipT (K := X.K) (by rw [da.len, db.len])).mono (fun H g => ⟨same_t g ha, same_t g hb⟩) fun i H x H' hi g y => gives_pair y fun a b h1 h2 => by
            obtain ⟨d, hd, kd⟩ := da.getV h1
            obtain ⟨e, he, ke⟩ := db.getV h2
            refine ⟨d, e, ?_, kd, ke⟩
            unfold zipD
            rw [List.getElem?_zipWith, hd, he]
end
end DL

set_option Elab.async false
set_option linter.all false
set_option maxRecDepth 100000
set_option maxHeartbeats 2000000
namespace DL
open PySem PySem.Spec PyProof.Rows L2
/-! ### small steps of the tactics -/
theorem tb_i {P : Bool → Own → Prop} {k : Bool} {O : Own} (h : P k O) : tb P (.d (.bool k)) O := h
theorem toI_i {P : Option Int → Own → Prop} {k : Int} {O : Own} (h : P (some k) O) : toI P (.d (.int k)) O := h
theorem if_t {k : Bool} {A B : Prop} (e : k = true) (h : A) : if k = true then A else B := by rw [if_pos e]; exact h
theorem if_f {k : Bool} {A B : Prop} (e : k = false) (h : B) : if k = true then A else B := by rw [if_neg (by rw [e]; exact Bool.false_ne_true)]; exact h
theorem if_2 {k : Bool} {A B : Prop} (h1 : k = true → A) (h2 : k = false → B) : if k = true then A else B := by
  cases k with
  | true => exact h1 rfl
  | false => exact h2 rfl
theorem sz0 {n : Nat} (h : n ≤ 100000) : n ≤ sizeLine := Nat.le_trans h (by decide)
theorem sz1 {n : Nat} (h : n < 100000) : n < sizeLine := Nat.lt_of_lt_of_le h (by decide)
theorem call_pre {n : Nat} {ws : List W} {A : Prop} (h : ws.length = n) (a : A) : ws.length = n ∧ A := ⟨h, a⟩
/-- a test cut: its answer told once -/
theorem dt_cut {X : Cx} {τ : Tau} {O : Own} {PB : Bool → Own → Prop} {c : Expr} (kv : Bool) (h : DT X τ O c fun k O' => k = kv ∧ O' = O) (h2 : PB kv O) : DT X τ O c PB := h.mono fun w O' ⟨a, b⟩ => by rw [a, b]; exact h2
theorem de_cut {X : Cx} {τ : Tau} {O : Own} {P : W → Own → Prop} {c : Expr} (w : W) (h : DE X τ O c fun k O' => k = w ∧ O' = O) (h2 : P w O) : DE X τ O c P := h.mono fun w O' ⟨a, b⟩ => by rw [a, b]; exact h2
/-- the statement if, its test cut -/
theorem ds_ifc {X : Cx} {τ : Tau} {O : Own} {D : DEn} {c : Expr} {body body2 : List Stmt} {pos : Pos} (kv : Bool) (h : DT X τ O c fun k O' => k = kv ∧ O' = O) (h1 : kv = true → DSs X τ O body D) (h2 : kv = false → DSs X τ O body2 D) : DS X τ O (.If c body body2 pos) D :=
  ds_if (dt_cut kv h (if_2 h1 h2))
theorem big_in {n : Nat} (a b : Int) (h : a ≤ b ∧ b ≤ a) : a = b := by omega
end DL
namespace DL
open PySem PySem.Spec PyProof.Rows L2
def pf1 (C : PyData → Prop) (g : PyData → PyData) : Pre := fun ws O P => ∃ d, ws = [.d d] ∧ C d ∧ P (.d (g d)) O
def pf2 (C : PyData → PyData → Prop) (g : PyData → PyData → PyData) : Pre := fun ws O P => ∃ d e, ws = [.d d, .d e] ∧ C d e ∧ P (.d (g d e)) O
def pf3 (C : PyData → PyData → PyData → Prop) (g : PyData → PyData → PyData → PyData) : Pre := fun ws O P => ∃ d e f, ws = [.d d, .d e, .d f] ∧ C d e f ∧ P (.d (g d e f)) O
theorem pf1_i {C : PyData → Prop} {g : PyData → PyData} {d : PyData} {O : Own} {P : W → Own → Prop} (c : C d) (h : P (.d (g d)) O) : pf1 C g [.d d] O P := ⟨d, rfl, c, h⟩
theorem pf2_i {C : PyData → PyData → Prop} {g : PyData → PyData → PyData} {d e : PyData} {O : Own} {P : W → Own → Prop} (c : C d e) (h : P (.d (g d e)) O) : pf2 C g [.d d, .d e] O P := ⟨d, e, rfl, c, h⟩
theorem pf3_i {C : PyData → PyData → PyData → Prop} {g : PyData → PyData → PyData → PyData} {d e f : PyData} {O : Own} {P : W → Own → Prop} (c : C d e f) (h : P (.d (g d e f)) O) : pf3 C g [.d d, .d e, .d f] O P := ⟨d, e, f, rfl, c, h⟩
abbrev tr1 : PyData → Prop := fun _ => True
abbrev tr2 : PyData → PyData → Prop := fun _ _ => True
end DL

set_option Elab.async false
set_option linter.all false
set_option maxRecDepth 100000
set_option maxHeartbeats 2000000
/-! a zip of two tuples whose pairs go to one name: the pair is held, or it is not, at the next turn -/
namespace DZ
open PySem PySem.Spec PyProof.Rows L2 DL
/-- the zip at z, whatever it gave out -/
def ZipAt (h : Heap) (z TI TO : Addr) : Prop := ∃ (f0 : Value) (f : Bool), (f0 = .none ∨ ∃ T : Addr, f0 = rawInt T) ∧
  h.get? z = some { cls := .type "zip", dict := none, data := .fields #[f0, .bool f, .bool false, .ref TI, .ref TO], slots := #[] }
section
variable {prog : Program} {w : World} {A : Around} {E : Value → Shared → Prop} {s : Shared} {z TI TO i1 i2 l1 l2 : Addr} {k1 k2 : Nat} {xs ys : Array Value} {x y a b : Value}
theorem lone {a : Addr} {Q : Option Obj → Shared → Prop} (h : Q (s.heap.get? a) s) : wpAny (model prog w) A (loadIfAlive a) Q E s := fun _ _ _ => h
/-- is the pair free: yes, or no; the zip is one still -/
theorem isFree {Q : Bool → Shared → Prop} (hz : ZipAt s.heap z TI TO) (h : ∀ k h', ZipAt h' z TI TO → Heap.SameBut z s.heap h' → Q k { s with heap := h' }) :
    wpAny (model prog w) A (Builtin.SmallTypes.ownedTupleIsFree (.ref z)) Q E s := by
  obtain ⟨f0, f, hf, g⟩ := hz
  unfold Builtin.SmallTypes.ownedTupleIsFree
  refine wpAny_bind (wpAny_field g rfl (x := f0) rfl ?_)
  rcases hf with rfl | ⟨T, rfl⟩
  · exact wpAny_pure (h true s.heap ⟨_, f, .inl rfl, g⟩ (Heap.SameBut.refl _ _))
  · refine wpAny_bind (lone ?_)
    cases e : s.heap.get? (T : Int).toNat with
    | none => exact wpAny_pure (h true s.heap ⟨_, f, .inr ⟨T, rfl⟩, g⟩ (Heap.SameBut.refl _ _))
    | some oT =>
      simp only [Option.isNone_some, Bool.false_eq_true, if_false]
      refine wpAny_bind (wpAny_field g rfl (x := .bool f) rfl ?_)
      cases f with
      | true => exact wpAny_pure (h false s.heap ⟨_, true, .inr ⟨T, rfl⟩, g⟩ (Heap.SameBut.refl _ _))
      | false => exact wpAny_bind (wpAny_setField_rec g (by simp) fun h₁ g₁ s₁ => wpAny_pure (h false h₁ ⟨_, true, .inr ⟨T, rfl⟩, g₁⟩ s₁))
theorem next_item {Q : Value → Shared → Prop} (D : ZipApart z TI TO i1 i2 l1 l2)
    (hz : ZipAt s.heap z TI TO) (hTI : IsPair s.heap TI (.ref i1) (.ref i2)) (hTO : IsPair s.heap TO a b)
    (h1 : s.heap.IsTupleIter i1 l1 k1) (h2 : s.heap.IsTupleIter i2 l2 k2) (hl1 : s.heap.IsTuple l1 xs) (hl2 : s.heap.IsTuple l2 ys) (hx : xs[k1]? = some x) (hy : ys[k2]? = some y)
    (hQ : ∀ h', ZipAt h' z TI TO → (∃ a b, IsPair h' TO a b) → h'.IsTupleIter i1 l1 (k1 + 1) → h'.IsTupleIter i2 l2 (k2 + 1) → IsPair h' s.heap.objs.size x y → h'.objs.size = s.heap.objs.size + 1 →
      (∀ c o, c ≠ z → c ≠ TO → c ≠ i1 → c ≠ i2 → s.heap.get? c = some o → h'.get? c = some o) → Q (.ref s.heap.objs.size) { s with heap := h' }) :
    wpAny (model prog w) A (Builtin.«zip.__next__» ⟨[.ref z], []⟩) (fun fin s' => ∃ v, fin = .done (.ret v) ∧ Q v s') E s := by
  obtain ⟨f0, f, hf, g⟩ := id hz
  show wpAny _ _ (field (.ref z) 2 >>= _) _ _ _
  refine wpAny_bind (wpAny_field g rfl (x := .bool false) rfl ?_)
  show wpAny _ _ (field (.ref z) 3 >>= _) _ _ _
  refine wpAny_bind (wpAny_field g rfl (x := .ref TI) rfl (wpAny_bind (wpAny_seqItems hTI rfl ?_)))
  show wpAny _ _ (Builtin.SmallTypes.ownedTupleIsFree (.ref z) >>= _) _ _ _
  refine wpAny_bind (isFree hz fun k h₀ hz₀ s₀ => ?_)
  have j1 := h1.extBut s₀.extBut D.i1z
  have j2 := h2.extBut s₀.extBut D.i2z
  have t1 := hl1.extBut s₀.extBut D.l1z
  have t2 := hl2.extBut s₀.extBut D.l2z
  have pO : IsPair h₀ TO a b := s₀.extBut _ _ D.TOz hTO
  cases k with
  | true =>
    obtain ⟨f0, f, hf, g₀⟩ := hz₀
    simp only [if_true]
    refine wpAny_bind (wpAny_rule (wpAny_bind (wpAny_field g₀ rfl (x := .ref TO) rfl (wpAny_bind (wpAny_setField_rec g₀ (by simp) fun h₁ g₁ s₁ => ?_)))))
    refine wpAny_bind ?_
    simp only [List.zipIdx_cons, List.zipIdx_nil, List.forIn_cons, List.forIn_nil]
    refine wpAny_bind (wpAny_bind (wpAny_onRaise ?_))
    show wpAny _ _ (Builtin.SmallTypes.nextOf (.ref i1) >>= _) _ _ _
    refine wpAny_bind (RZ.nextOf_tuple_item (j1.extBut s₁.extBut D.i1z) (t1.extBut s₁.extBut D.l1z) hx fun h₂ e₂ s₂ => wpAny_pure ?_)
    have pO₂ : IsPair h₂ TO a b := s₂.extBut _ _ D.TOi1 (s₁.extBut _ _ D.TOz pO)
    refine wpAny_bind (wpAny_seqItems pO₂ rfl (wpAny_bind (wpAny_updateSeq_pair pO₂ fun h₃ pO₃ s₃ => wpAny_bind (wpAny_letGo (wpAny_pure ?_)))))
    replace pO₃ : IsPair h₃ TO x b := pO₃
    refine wpAny_bind (wpAny_bind (wpAny_onRaise ?_))
    show wpAny _ _ (Builtin.SmallTypes.nextOf (.ref i2) >>= _) _ _ _
    refine wpAny_bind (RZ.nextOf_tuple_item (((j2.extBut s₁.extBut D.i2z).extBut s₂.extBut D.i12.symm).extBut s₃.extBut D.TOi2.symm)
      (((t2.extBut s₁.extBut D.l2z).extBut s₂.extBut D.l2i1).extBut s₃.extBut D.l2TO) hy fun h₄ e₄ s₄ => wpAny_pure ?_)
    have pO₄ : IsPair h₄ TO x b := s₄.extBut _ _ D.TOi2 pO₃
    refine wpAny_bind (wpAny_seqItems pO₄ rfl (wpAny_bind (wpAny_updateSeq_pair pO₄ fun h₅ pO₅ s₅ => wpAny_bind (wpAny_letGo (wpAny_pure (wpAny_pure ?_))))))
    replace pO₅ : IsPair h₅ TO x y := pO₅
    refine wpAny_bind (wpAny_seqItems pO₅ rfl (wpAny_bind (wpAny_newTuple ?_)))
    have sz : h₅.objs.size = s.heap.objs.size := by rw [s₅.1, s₄.1, s₃.1, s₂.1, s₁.1, s₀.1]
    have far : ∀ c o, c ≠ z → c ≠ TO → c ≠ i1 → c ≠ i2 → s.heap.get? c = some o → h₅.get? c = some o := fun c o c1 c2 c3 c4 e =>
      s₅.extBut _ _ c2 (s₄.extBut _ _ c4 (s₃.extBut _ _ c2 (s₂.extBut _ _ c3 (s₁.extBut _ _ c1 (s₀.extBut _ _ c1 e)))))
    have g₅ := s₅.extBut _ _ D.TOz.symm (s₄.extBut _ _ D.i2z.symm (s₃.extBut _ _ D.TOz.symm (s₂.extBut _ _ D.i1z.symm g₁)))
    have it₁ : h₅.IsTupleIter i1 l1 (k1 + 1) := ((e₂.extBut s₃.extBut D.TOi1.symm).extBut s₄.extBut D.i12).extBut s₅.extBut D.TOi1.symm
    have it₂ : h₅.IsTupleIter i2 l2 (k2 + 1) := e₄.extBut s₅.extBut D.TOi2.symm
    have zl : z < h₅.objs.size := Heap.lt_size g₅
    show wpAny _ _ (Builtin.SmallTypes.ownedTupleHandOut (.ref z) (.ref h₅.objs.size) >>= _) _ _ _
    refine wpAny_bind ?_
    unfold Builtin.SmallTypes.ownedTupleHandOut
    refine wpAny_bind (wpAny_setField_rec (Heap.get?_push_of_some _ g₅) (by simp) fun h₇ g₇ s₇ => wpAny_setField_rec g₇ (by simp) fun h₈ g₈ s₈ => wpAny_pure ⟨_, rfl, ?_⟩)
    have up : ∀ c o, c ≠ z → h₅.get? c = some o → h₈.get? c = some o := fun c o c1 e => s₈.extBut _ _ c1 (s₇.extBut _ _ c1 (Heap.get?_push_of_some _ e))
    have new : IsPair h₈ h₅.objs.size x y := s₈.extBut _ _ (Nat.ne_of_gt zl) (s₇.extBut _ _ (Nat.ne_of_gt zl) (Heap.get?_push_size _ rfl))
    have sz₈ : h₈.objs.size = h₅.objs.size + 1 := by rw [s₈.1, s₇.1, Heap.size_push]
    show Q (.ref h₅.objs.size) _
    rw [sz] at new sz₈ ⊢
    exact hQ h₈ ⟨_, false, .inr ⟨_, rfl⟩, g₈⟩ ⟨x, y, up _ _ D.TOz pO₅⟩ (it₁.at fun o e => up _ o D.i1z e) (it₂.at fun o e => up _ o D.i2z e) new sz₈ fun c o c1 c2 c3 c4 e => up c o c1 (far c o c1 c2 c3 c4 e)
  | false =>
    simp only [Bool.false_eq_true, if_false]
    refine wpAny_bind ?_
    rw [← Array.forIn_toList]
    simp only [List.forIn_cons, List.forIn_nil]
    refine wpAny_bind (wpAny_bind (wpAny_holding ?_))
    show wpAny _ _ (Builtin.SmallTypes.nextOf (.ref i1) >>= _) _ _ _
    refine wpAny_bind (RZ.nextOf_tuple_item (s := { s with heap := h₀ }) j1 t1 hx fun h₂ e₂ s₂ => wpAny_pure (wpAny_pure ?_))
    refine wpAny_bind (wpAny_bind (wpAny_holding ?_))
    show wpAny _ _ (Builtin.SmallTypes.nextOf (.ref i2) >>= _) _ _ _
    refine wpAny_bind (RZ.nextOf_tuple_item (s := { s with heap := h₂ }) (j2.extBut s₂.extBut D.i12.symm) (t2.extBut s₂.extBut D.l2i1) hy fun h₃ e₃ s₃ => wpAny_pure (wpAny_pure (wpAny_pure ?_)))
    show wpAny _ _ (newTuple [x, y] >>= _) _ _ _
    refine wpAny_bind (wpAny_newTuple (wpAny_pure ⟨_, rfl, ?_⟩))
    have sz : h₃.objs.size = s.heap.objs.size := by rw [s₃.1, s₂.1, s₀.1]
    obtain ⟨f0, f, hf, g₀⟩ := hz₀
    have g₃ := s₃.extBut _ _ D.i2z.symm (s₂.extBut _ _ D.i1z.symm g₀)
    have pO₃ : IsPair h₃ TO a b := s₃.extBut _ _ D.TOi2 (s₂.extBut _ _ D.TOi1 pO)
    have far : ∀ c o, c ≠ z → c ≠ TO → c ≠ i1 → c ≠ i2 → s.heap.get? c = some o → h₃.get? c = some o := fun c o c1 c2 c3 c4 e => s₃.extBut _ _ c4 (s₂.extBut _ _ c3 (s₀.extBut _ _ c1 e))
    have it₁ : h₃.IsTupleIter i1 l1 (k1 + 1) := e₂.extBut s₃.extBut D.i12
    have new : IsPair (h₃.push { cls := .type "tuple", data := .seq #[x, y] }) h₃.objs.size x y := Heap.get?_push_size _ rfl
    have sz₄ : (h₃.push { cls := .type "tuple", data := .seq #[x, y] }).objs.size = h₃.objs.size + 1 := Heap.size_push ..
    show Q (.ref h₃.objs.size) _
    rw [sz] at new sz₄ ⊢
    exact hQ _ ⟨f0, f, hf, Heap.get?_push_of_some _ g₃⟩ ⟨a, b, Heap.get?_push_of_some _ pO₃⟩ (it₁.at fun o e => Heap.get?_push_of_some _ e) (e₃.at fun o e => Heap.get?_push_of_some _ e) new sz₄ fun c o c1 c2 c3 c4 e => Heap.get?_push_of_some _ (far c o c1 c2 c3 c4 e)
theorem next_end {Q : Fin → Shared → Prop} (hh : A.handled = none) (D : ZipApart z TI TO i1 i2 l1 l2)
    (hz : ZipAt s.heap z TI TO) (hTI : IsPair s.heap TI (.ref i1) (.ref i2)) (hTO : IsPair s.heap TO a b)
    (h1 : s.heap.IsTupleIter i1 l1 k1) (h2 : s.heap.IsTupleIter i2 l2 k2) (hl1 : s.heap.IsTuple l1 xs) (hl2 : s.heap.IsTuple l2 ys) (hend : xs[k1]? = none ∨ ys[k2]? = none)
    (hE : ∀ h' e, (∀ c o, c ≠ z → c ≠ TO → c ≠ i1 → c ≠ i2 → s.heap.get? c = some o → h'.get? c = some o) → (∃ o, h'.get? e = some o ∧ o.cls = .type "StopIteration") → E (.ref e) { s with heap := h' }) :
    wpAny (model prog w) A (Builtin.«zip.__next__» ⟨[.ref z], []⟩) Q E s := by
  obtain ⟨f0, f, hf, g⟩ := id hz
  show wpAny _ _ (field (.ref z) 2 >>= _) _ _ _
  refine wpAny_bind (wpAny_field g rfl (x := .bool false) rfl ?_)
  show wpAny _ _ (field (.ref z) 3 >>= _) _ _ _
  refine wpAny_bind (wpAny_field g rfl (x := .ref TI) rfl (wpAny_bind (wpAny_seqItems hTI rfl ?_)))
  show wpAny _ _ (Builtin.SmallTypes.ownedTupleIsFree (.ref z) >>= _) _ _ _
  refine wpAny_bind (isFree hz fun k h₀ hz₀ s₀ => ?_)
  have j1 := h1.extBut s₀.extBut D.i1z
  have j2 := h2.extBut s₀.extBut D.i2z
  have t1 := hl1.extBut s₀.extBut D.l1z
  have t2 := hl2.extBut s₀.extBut D.l2z
  have pO : IsPair h₀ TO a b := s₀.extBut _ _ D.TOz hTO
  cases k with
  | true =>
    obtain ⟨f0, f, hf, g₀⟩ := hz₀
    simp only [if_true]
    refine wpAny_bind (wpAny_rule (wpAny_bind (wpAny_field g₀ rfl (x := .ref TO) rfl (wpAny_bind (wpAny_setField_rec g₀ (by simp) fun h₁ g₁ s₁ => ?_)))))
    refine wpAny_bind ?_
    simp only [List.zipIdx_cons, List.zipIdx_nil, List.forIn_cons, List.forIn_nil]
    refine wpAny_bind (wpAny_bind (wpAny_onRaise ?_))
    show wpAny _ _ (Builtin.SmallTypes.nextOf (.ref i1) >>= _) _ _ _
    cases hx : xs[k1]? with
    | none =>
      refine wpAny_bind (RZ.nextOf_tuple_end hh (j1.extBut s₁.extBut D.i1z) (t1.extBut s₁.extBut D.l1z) hx fun h₂ e s₂ he => ?_)
      obtain ⟨oe, hoe, hce⟩ := he
      have g₂ := s₂ _ _ D.i1z.symm g₁
      have hez : e ≠ z := fun q => by subst q; rw [g₂] at hoe; cases hoe; simp at hce
      exact wpAny_setField_rec g₂ (by simp) fun h₃ _ s₃ => hE h₃ e (fun c o c1 _ c3 _ q => s₃.extBut _ _ c1 (s₂ _ _ c3 (s₁.extBut _ _ c1 (s₀.extBut _ _ c1 q)))) ⟨oe, s₃.extBut _ _ hez hoe, hce⟩
    | some x =>
      have hy : ys[k2]? = none := by
        rcases hend with q | q
        · rw [hx] at q; cases q
        · exact q
      refine wpAny_bind (RZ.nextOf_tuple_item (j1.extBut s₁.extBut D.i1z) (t1.extBut s₁.extBut D.l1z) hx fun h₂ e₂ s₂ => wpAny_pure ?_)
      have pO₂ : IsPair h₂ TO a b := s₂.extBut _ _ D.TOi1 (s₁.extBut _ _ D.TOz pO)
      refine wpAny_bind (wpAny_seqItems pO₂ rfl (wpAny_bind (wpAny_updateSeq_pair pO₂ fun h₃ pO₃ s₃ => wpAny_bind (wpAny_letGo (wpAny_pure ?_)))))
      refine wpAny_bind (wpAny_bind (wpAny_onRaise ?_))
      show wpAny _ _ (Builtin.SmallTypes.nextOf (.ref i2) >>= _) _ _ _
      refine wpAny_bind (RZ.nextOf_tuple_end hh (((j2.extBut s₁.extBut D.i2z).extBut s₂.extBut D.i12.symm).extBut s₃.extBut D.TOi2.symm)
        (((t2.extBut s₁.extBut D.l2z).extBut s₂.extBut D.l2i1).extBut s₃.extBut D.l2TO) hy fun h₄ e s₄ he => ?_)
      obtain ⟨oe, hoe, hce⟩ := he
      have g₄ := s₄ _ _ D.i2z.symm (s₃.extBut _ _ D.TOz.symm (s₂.extBut _ _ D.i1z.symm g₁))
      have hez : e ≠ z := fun q => by subst q; rw [g₄] at hoe; cases hoe; simp at hce
      exact wpAny_setField_rec g₄ (by simp) fun h₅ _ s₅ => hE h₅ e (fun c o c1 c2 c3 c4 q => s₅.extBut _ _ c1 (s₄ _ _ c4 (s₃.extBut _ _ c2 (s₂.extBut _ _ c3 (s₁.extBut _ _ c1 (s₀.extBut _ _ c1 q)))))) ⟨oe, s₅.extBut _ _ hez hoe, hce⟩
  | false =>
    simp only [Bool.false_eq_true, if_false]
    refine wpAny_bind ?_
    rw [← Array.forIn_toList]
    simp only [List.forIn_cons, List.forIn_nil]
    refine wpAny_bind (wpAny_bind (wpAny_holding ?_))
    show wpAny _ _ (Builtin.SmallTypes.nextOf (.ref i1) >>= _) _ _ _
    cases hx : xs[k1]? with
    | none =>
      exact wpAny_bind (RZ.nextOf_tuple_end (s := { s with heap := h₀ }) hh j1 t1 hx fun h₂ e s₂ he => hE h₂ e (fun c o c1 _ c3 _ q => s₂ _ _ c3 (s₀.extBut _ _ c1 q)) he)
    | some x =>
      have hy : ys[k2]? = none := by
        rcases hend with q | q
        · rw [hx] at q; cases q
        · exact q
      refine wpAny_bind (RZ.nextOf_tuple_item (s := { s with heap := h₀ }) j1 t1 hx fun h₂ e₂ s₂ => wpAny_pure (wpAny_pure ?_))
      refine wpAny_bind (wpAny_bind (wpAny_holding ?_))
      show wpAny _ _ (Builtin.SmallTypes.nextOf (.ref i2) >>= _) _ _ _
      exact wpAny_bind (RZ.nextOf_tuple_end (s := { s with heap := h₂ }) hh (j2.extBut s₂.extBut D.i12.symm) (t2.extBut s₂.extBut D.l2i1) hy fun h₃ e s₃ he => hE h₃ e (fun c o c1 _ c3 c4 q => s₃ _ _ c4 (s₂.extBut _ _ c3 (s₀.extBut _ _ c1 q))) he)
theorem ZipAt.ty (hz : ZipAt s.heap z TI TO) : s.TypeIs (.ref z) "zip" := by
  obtain ⟨f0, f, hf, g⟩ := hz
  exact ⟨_, g, rfl⟩
theorem pyNext_item {Q : Option Value → Shared → Prop} (D : ZipApart z TI TO i1 i2 l1 l2)
    (hz : ZipAt s.heap z TI TO) (hTI : IsPair s.heap TI (.ref i1) (.ref i2)) (hTO : IsPair s.heap TO a b)
    (h1 : s.heap.IsTupleIter i1 l1 k1) (h2 : s.heap.IsTupleIter i2 l2 k2) (hl1 : s.heap.IsTuple l1 xs) (hl2 : s.heap.IsTuple l2 ys) (hx : xs[k1]? = some x) (hy : ys[k2]? = some y)
    (hQ : ∀ h', ZipAt h' z TI TO → (∃ a b, IsPair h' TO a b) → h'.IsTupleIter i1 l1 (k1 + 1) → h'.IsTupleIter i2 l2 (k2 + 1) → IsPair h' s.heap.objs.size x y → h'.objs.size = s.heap.objs.size + 1 →
      (∀ c o, c ≠ z → c ≠ TO → c ≠ i1 → c ≠ i2 → s.heap.get? c = some o → h'.get? c = some o) → Q (some (.ref s.heap.objs.size)) { s with heap := h' }) :
    wpAny (model prog w) A (pyNext (.ref z)) Q E s := by
  unfold pyNext
  exact wpAny_bind (wpAny_attempt (wpAny_callSpecial?_slot (name := Str.ofString "__next__") hz.ty F.slot_zip_next
    (wpAny_call_entry F.slot_zip_next hz.ty F.entry_zip_next (next_item D hz hTI hTO h1 h2 hl1 hl2 hx hy fun h' a1 a2 a3 a4 a5 a6 a7 => wpAny_pure (hQ h' a1 a2 a3 a4 a5 a6 a7)) (F.args_zip_next_1 _))))
theorem pyNext_end {Q : Option Value → Shared → Prop} (hh : A.handled = none) (D : ZipApart z TI TO i1 i2 l1 l2)
    (hz : ZipAt s.heap z TI TO) (hTI : IsPair s.heap TI (.ref i1) (.ref i2)) (hTO : IsPair s.heap TO a b)
    (h1 : s.heap.IsTupleIter i1 l1 k1) (h2 : s.heap.IsTupleIter i2 l2 k2) (hl1 : s.heap.IsTuple l1 xs) (hl2 : s.heap.IsTuple l2 ys) (hend : xs[k1]? = none ∨ ys[k2]? = none)
    (hQ : ∀ h', (∀ c o, c ≠ z → c ≠ TO → c ≠ i1 → c ≠ i2 → s.heap.get? c = some o → h'.get? c = some o) → Q none { s with heap := h' }) : wpAny (model prog w) A (pyNext (.ref z)) Q E s := by
  unfold pyNext
  refine wpAny_bind (wpAny_attempt (wpAny_callSpecial?_slot (name := Str.ofString "__next__") hz.ty F.slot_zip_next
    (wpAny_call_entry F.slot_zip_next hz.ty F.entry_zip_next (next_end hh D hz hTI hTO h1 h2 hl1 hl2 hend fun h' e hk he => ?_) (F.args_zip_next_1 _))))
  obtain ⟨o, ho, hc⟩ := he
  exact wpAny_bind (wpAny_isInstance (T := "StopIteration") (b := true) ⟨o, ho, hc⟩ isSubtype_stop (wpAny_pure (hQ _ hk)))
theorem pyIter_zip {Q : Value → Shared → Prop} (hz : ZipAt s.heap z TI TO) (h : Q (.ref z) s) : wpAny (model prog w) A (pyIter (.ref z)) Q E s := by
  refine wpAny_pyIter_slot hz.ty F.slot_zip_iter (wpAny_call_entry F.slot_zip_iter hz.ty F.entry_zip_iter ?_ (F.args_zip_iter_1 _))
  show wpAny _ _ (ret (.ref z)) _ _ s
  exact wpAny_pure ⟨_, rfl, "zip", _, hz.ty, F.slot_zip_next.lookup, h⟩
end
/-- one pair a turn to a single name -/
theorem turn_z {P : Program} {w : World} {K : PySem.W.Frag} {x : Str} {np : Pos} {a b z TI TO i1 i2 : Addr} (D : ZipApart z TI TO i1 i2 a b) :
    Turn P w K (.Name x np) (RZ.ItzT K a b) [z, TI, TO, i1, i2] z (fun i h => ZipAt h z TI TO ∧ IsPair h TI (.ref i1) (.ref i2) ∧ (∃ x y, IsPair h TO x y) ∧ h.IsTupleIter i1 a i ∧ h.IsTupleIter i2 b i) where
  mem := List.mem_cons_self
  obj := fun i h ⟨⟨f0, f, _, g⟩, p1, ⟨x, y, p2⟩, ⟨o1, e1, _, d1⟩, ⟨o2, e2, _, d2⟩⟩ c hc => by
    simp only [List.mem_cons, List.not_mem_nil, or_false] at hc
    rcases hc with rfl | rfl | rfl | rfl | rfl
    · exact ⟨_, g, nofun⟩
    · exact ⟨_, p1, nofun⟩
    · exact ⟨_, p2, nofun⟩
    · exact ⟨o1, e1, by rw [d1]; nofun⟩
    · exact ⟨o2, e2, by rw [d2]; nofun⟩
  keep := fun i h h' ⟨⟨f0, f, hf, g⟩, p1, ⟨x, y, p2⟩, j1, j2⟩ k =>
    ⟨⟨f0, f, hf, k z (by simp) _ g⟩, k TI (by simp) _ p1, ⟨x, y, k TO (by simp) _ p2⟩, j1.at (k i1 (by simp)), j2.at (k i2 (by simp))⟩
  item := by
    intro X hP hw hK hc i pins s σ H E I hf ⟨hz, p1, ⟨_, _, p2⟩, j1, j2⟩ ⟨xs, ys, x, y, qx, qy, hx, hy⟩
    subst hP hw hK
    obtain ⟨us, ru, tu, _⟩ := I.tuple qx
    obtain ⟨vs, rv, tv, _⟩ := I.tuple qy
    obtain ⟨u, hu, kx⟩ := ru.get hx
    obtain ⟨v, hv, ky⟩ := rv.get hy
    refine pyNext_item D hz p1 p2 j1 j2 tu tv (x := u) (y := v) (by simpa using hu) (by simpa using hv) fun h' z' o' e1 e2 new sz far => ⟨_, rfl, wpAny_pure ?_⟩
    have ok : ObjOk X.prog X.w (upd H s.heap.objs.size (.tup [x, y])) h' s.heap.objs.size (.tup [x, y]) := ⟨by show 2 ≤ sizeLine; decide, [u, v], .cons kx (.cons ky .nil), ⟨_, new, rfl, _, rfl⟩⟩
    have out : ∀ c, c ∉ [z, TI, TO, i1, i2] → c ≠ z ∧ c ≠ TO ∧ c ≠ i1 ∧ c ≠ i2 := fun c hc => by
      simp only [List.mem_cons, List.not_mem_nil, or_false, not_or] at hc
      exact ⟨hc.1, hc.2.2.1, hc.2.2.2.1, hc.2.2.2.2⟩
    have I1 := I.turnedNew (t' := s.toks) (fun c o hb q => far c o (out c hb).1 (out c hb).2.1 (out c hb).2.2.1 (out c hb).2.2.2 q) hf (Nat.le_refl _) ok
    refine ⟨.ref s.heap.objs.size, _, I1, rfl, ⟨_, x, y, rfl, I.hok.fresh (Nat.le_refl _), rfl, fun l hl => by rw [I.tuple_inj hl qx]; exact hx, fun l hl => by rw [I.tuple_inj hl qy]; exact hy⟩,
      ⟨z', far _ _ D.TIz D.TITO D.TIi1 D.TIi2 p1, o', e1, e2⟩, fun c hcm => ?_⟩
    have hlt : c < s.heap.objs.size := by
      obtain ⟨f0, f, _, g⟩ := hz
      obtain ⟨o1, q1, _⟩ := j1
      obtain ⟨o2, q2, _⟩ := j2
      simp only [List.mem_cons, List.not_mem_nil, or_false] at hcm
      rcases hcm with rfl | rfl | rfl | rfl | rfl
      · exact Heap.lt_size g
      · exact Heap.lt_size p1
      · exact Heap.lt_size p2
      · exact Heap.lt_size q1
      · exact Heap.lt_size q2
    rw [upd_ne (Nat.ne_of_lt hlt)]
    exact (hf c hcm).1
  done := by
    intro X hP hw hK hc i pins s σ H E I hf ⟨hz, p1, ⟨_, _, p2⟩, j1, j2⟩ ⟨xs, ys, qx, qy, hend⟩
    subst hP hw hK
    obtain ⟨us, ru, tu, _⟩ := I.tuple qx
    obtain ⟨vs, rv, tv, _⟩ := I.tuple qy
    have n1 := ru.length
    have n2 := rv.length
    have he : us.toArray[i]? = none ∨ vs.toArray[i]? = none := hend.imp (fun q => by simp; omega) (fun q => by simp; omega)
    refine pyNext_end (I.ok.hd hc) D hz p1 p2 j1 j2 tu tv he fun h' far => ⟨rfl, I.turnedL (t' := s.toks) (fun c o hb q => ?_) hf⟩
    simp only [List.mem_cons, List.not_mem_nil, or_false, not_or] at hb
    exact far c o hb.1 hb.2.2.1 hb.2.2.2.1 hb.2.2.2.2 q
  self := fun A i s Q E st h => pyIter_zip st.1 h
def iZ (K : PySem.W.Frag) (t : TA) : TI := fun σ H R => t σ H fun vs H1 => ∃ a b xs ys, vs = [.ref a, .ref b] ∧ SqT K H1 a xs ∧ SqT K H1 b ys ∧ R (RZ.ItzT K a b) H1
theorem pi_z {X : Cx} {e e2 : Expr} {t : TA} {p pos np : Pos} {x : Str} (hg : Gl X "zip") (hm : X.mg "zip" = none) (ha : PA X [e, e2] t)
    (hs : starEach [e, e2] X.env = (false, eval e X.env) :: starEach [e2] X.env := by rfl) (hpl : (backTo pos (starEach [e2] X.env)).any (·.1) = false := by rfl) :
    PI X (.Name x np) (.Call (.Name "zip" p) [e, e2] [] pos) (iZ X.K t) := by
  refine ⟨fun pins s σ H R I h => Call_ (ld_blt I hg hm PyProof.Rows.boot_zip (PyProof.Rows.callWith_type1 (thn (ha.run pos pins s σ H _ I h) fun us s1 ⟨vs, H1, I1, r1, ⟨a, b, xs, ys, ex, qx, qy, q⟩⟩ => ?_) hs hpl))⟩
  subst ex
  obtain ⟨u, v, rfl, ra, rb⟩ := vals2 r1
  cases ra
  cases rb
  obtain ⟨us, ru, tu, _⟩ := I1.tuple qx
  obtain ⟨ws, rw_, tw, _⟩ := I1.tuple qy
  obtain ⟨o1, ho1, _⟩ := id tu
  obtain ⟨o2, ho2, _⟩ := id tw
  refine RZ.call_zipT (show s1.heap.IsTuple a us.toArray from tu) (show s1.heap.IsTuple b ws.toArray from tw) fun h' hz hTI hTO h1 h2 hsz hk => ?_
  have za : ZipAt h' (s1.heap.objs.size + 4) (s1.heap.objs.size + 2) (s1.heap.objs.size + 3) := ⟨.none, false, .inl rfl, hz⟩
  have I2 : Inv X pins σ H1 { s1 with heap := h' } := I1.kept (t' := s1.toks) hk
  refine pyIter_zip (s := { s1 with heap := h' }) za ⟨_, _, _, _, H1, rfl, I2, turn_z (PySem.W.ktu_apart s1.heap.objs.size a b (Heap.lt_size ho1) (Heap.lt_size ho2)), ⟨za, hTI, ⟨_, _, hTO⟩, h1, h2⟩, fun c hcm => ?_, q⟩
  have hle : s1.heap.objs.size ≤ c := by
    simp only [List.mem_cons, List.not_mem_nil, or_false] at hcm
    rcases hcm with rfl | rfl | rfl | rfl | rfl
    · exact Nat.le_add_right _ _
    · exact Nat.le_add_right _ _
    · exact Nat.le_add_right _ _
    · exact Nat.le_refl _
    · exact Nat.le_add_right _ _
  exact I1.fpOk hle (I1.hok.fresh hle)
/-- for pair in zip(t, u) -/
theorem it_zip1 {X : Cx} {τ : Tau} {O : Own} {R : List PyData → Own → Prop} {a b : Expr} {x : Str} {p pos np : Pos} (hm : X.mg "zip" = none)
    (h : DE X τ O a fun w O1 => DE X τ O1 b fun w2 O2 => ∃ xs ys, w = .d (.tuple xs) ∧ w2 = .d (.tuple ys) ∧ R (zipD xs ys) O2) (hg : Gl X "zip" := by rfl)
    (hs : starEach [a, b] X.env = (false, eval a X.env) :: starEach [b] X.env := by rfl) (hs2 : starEach [b] X.env = (false, eval b X.env) :: starEach [] X.env := by rfl) (hpl : (backTo pos (starEach [b] X.env)).any (·.1) = false := by rfl) :
    IterD X (.Name x np) (.Call (.Name "zip" p) [a, b] [] pos) τ O R := by
  refine ⟨?_⟩
  intro σ Hr H Rr hE hS hR pins s I
  refine (pi_z hg hm pa_ta hs hpl).run pins s σ H Rr I ?_
  refine (da_cons (PA := fun ws O1 => ∃ xs ys, ws = [.d (.tuple xs), .d (.tuple ys)] ∧ R (zipD xs ys) O1) (h.mono fun w O' h' => da_cons (h'.mono fun w2 O2 ⟨xs, ys, e1, e2, h1⟩ => da_nil ⟨xs, ys, by rw [e1, e2], h1⟩) hs2) hs) σ Hr H _ hE hS fun vs H1 ⟨ws, O1, Hr1, ⟨xs, ys, hw, hr⟩, e1, s1, k1⟩ => ?_
  subst hw
  cases k1 with
  | cons k2 k3 =>
    cases k3 with
    | cons k4 k5 =>
      cases k5
      cases k2 with
      | tup ha da =>
        cases k4 with
        | tup hb db =>
          refine ⟨_, _, _, _, rfl, same_t s1.ex ha, same_t s1.ex hb, hR _ H1 _ O1 Hr1 hr e1 s1 ?_⟩
          unfold ItOk
          have el : (zipD xs ys).length = min xs.length ys.length := by simp [zipD]
          rw [el]
          exact (walk_zipT (K := X.K) (by rw [da.len, db.len])).mono (fun H g => ⟨same_t g ha, same_t g hb⟩) fun i H x H' hi g y => gives_pair y fun a b h1 h2 => by
            obtain ⟨d, hd, kd⟩ := da.getV h1
            obtain ⟨e, he, ke⟩ := db.getV h2
            refine ⟨d, e, ?_, kd, ke⟩
            unfold zipD
            rw [List.getElem?_zipWith, hd, he]
end DZ

set_option Elab.async false
set_option linter.all false
set_option maxRecDepth 100000
set_option maxHeartbeats 2000000
namespace DY
open PySem PySem.Spec PyProof.Rows L2 DL
/-! enumerate of a tuple -/
theorem meets_enum1 {v : Value} {o : Obj} {H : Heap → Prop} (B : Begins v o H) :
    Meets (Builtin.«enumerate.__new__» ⟨[.type "enumerate", v], []⟩) (fun _ R s => H s.heap ∧
      R (.ok (.ret (.ref (s.heap.push o).objs.size))) { s with heap := (s.heap.push o).push { cls := .type "enumerate", data := .fields #[.none, .bool false, .ref s.heap.objs.size, rawInt 0, .none, .none] } }) :=
  .of_wp fun prog w A R s ⟨h1, h⟩ => by
    have hsub := sub_enumerate
    have q1 : ∀ {A' : Around} {E : Value → Shared → Prop} {Q : Value → Shared → Prop}, Q (.ref s.heap.objs.size) { s with heap := s.heap.push o } → wpAny (model prog w) A' (pyIter v) Q E s := fun q => B.iter prog w _ _ s _ h1 q
    obtain ⟨hp, g, d, tk, os⟩ := s
    wp_walk using q1
    refine wpAny_stack_any fun st => wpAny_pure ?_
    split
    · rename_i c _ _ _ _ _
      cases (c == Value.type "enumerate") <;> (wp_walk using q1; exact ⟨_, rfl, h⟩)
    · wp_walk using q1
      exact ⟨_, rfl, h⟩
section
variable {prog : Program} {w : World} {A : Around} {E : Value → Shared → Prop} {s : Shared}
theorem enum_tup {t : Addr} {items : Array Value} {Q : Value → Shared → Prop} (ht : s.heap.IsTuple t items)
    (h : ∀ h', IsEnum h' (s.heap.objs.size + 1) s.heap.objs.size 0 .none → h'.IsTupleIter s.heap.objs.size t 0 → (∀ b o, s.heap.get? b = some o → h'.get? b = some o) → Q (.ref (s.heap.objs.size + 1)) { s with heap := h' }) :
    wpAny (model prog w) A (call (.type "enumerate") [.ref t]) Q E s := by
  have B := begins_tuple t items
  refine callType_new F.called_enumerate (by decide) (F.typeCall_enumerate_1 _) (F.newCall_enumerate_1 _) (fun obj => F.args_object_init_2 obj _) F.entry_enumerate_new (meets_enum1 B) ⟨ht, ?_⟩
  have z : (s.heap.push { cls := .type "tuple_iterator", data := .fields #[.ref t, .int 0 0] }).objs.size = s.heap.objs.size + 1 := Heap.size_push ..
  have g := Heap.get?_push_size (s.heap.push { cls := .type "tuple_iterator", data := .fields #[.ref t, .int 0 0] }) (o := { cls := .type "enumerate", data := .fields #[.none, .bool false, .ref s.heap.objs.size, rawInt 0, .none, .none] }) rfl
  show _ ∧ _
  rw [z] at g ⊢
  exact ⟨⟨_, g, rfl⟩, h _ g ⟨_, Heap.get?_push_of_some _ (Heap.get?_push_size _ rfl), rfl, rfl⟩ fun b o x => Heap.get?_push_of_some _ (Heap.get?_push_of_some _ x)⟩
end
/-- the tuple at a, each item in a new pair -/
def IteT (K : PySem.W.Frag) (a : Addr) : It :=
  ⟨fun i H => ∃ (xs : List V) (x : V), SqT K H a xs ∧ xs[i]? = some x, fun i H v H' => ∃ T x, v = .ref T ∧ H T = none ∧ H' = upd H T (.tup [.int (i : Nat), x]) ∧ ∀ xs, SqT K H a xs → xs[i]? = some x, fun i H => ∃ xs : List V, SqT K H a xs ∧ xs.length ≤ i⟩
theorem turn_e {P : Program} {w : World} {K : PySem.W.Frag} {elts : List Expr} {kk : Nat} {tpos : Pos} (a e it : Addr) :
    Turn P w K (.Tuple elts kk tpos) (IteT K a) [e, it] e (fun i h => (∃ old, IsEnum h e it ((i : Nat) : Int) old) ∧ h.IsTupleIter it a i ∧ e ≠ it) where
  mem := List.mem_cons_self
  obj := fun i h ⟨⟨old, he⟩, ⟨o, ho, hc, hd⟩, _⟩ b hb => by
    simp only [List.mem_cons, List.not_mem_nil, or_false] at hb
    rcases hb with rfl | rfl
    · exact ⟨_, he, nofun⟩
    · exact ⟨o, ho, by rw [hd]; nofun⟩
  keep := fun i h h' ⟨⟨old, he⟩, hi, hne⟩ k => ⟨⟨old, k e (by simp) _ he⟩, hi.at (k it (by simp)), hne⟩
  item := by
    intro X hP hw hK hc i pins s σ H E I hf ⟨⟨old, he⟩, hit, hne⟩ ⟨xs, x, qx, hx⟩
    subst hP hw hK
    obtain ⟨us, ru, tu, _⟩ := I.tuple qx
    obtain ⟨u, hu, kx⟩ := ru.get hx
    have hel : e < s.heap.objs.size := Heap.lt_size he
    have hil : it < s.heap.objs.size := by obtain ⟨_, q, _⟩ := hit; exact Heap.lt_size q
    obtain ⟨ot, hot, hct, nt, hdt⟩ := id tu
    have hta : a ≠ it := fun q => by
      obtain ⟨o2, e2, c2, _⟩ := hit
      subst q
      rw [hot] at e2
      cases e2
      rw [hct] at c2
      exact absurd c2 (by decide)
    have hea : e ≠ a := fun q => by
      subst q
      have he2 := hot.symm.trans he
      cases he2
      exact absurd (show Value.type "enumerate" = Value.type "tuple" from hct) (by decide)
    have hi : i < us.toArray.size := by
      have := (List.getElem?_eq_some_iff.mp hu).1
      simpa using this
    refine wpAny_pyNext_enum_itemC (D := Draws.tuple (A := X.A.in1) (I.ok.hd hc) it a hta us.toArray) he ⟨hit, tu⟩ hi hne (by simp [hne, hea]) fun v h' tk hv ho st new sz far => ⟨_, rfl, ?_⟩
    have hvu : v = u := by
      have q : us.toArray[i]? = some v := hv
      rw [List.getElem?_toArray, hu] at q
      exact (Option.some.inj q).symm
    subst hvu
    refine wpAny_letOwnedTupleGo_enum (s := { s with heap := h', toks := tk + 1 }) ho fun h'' he' sb => ?_
    have new2 := (sb.2 _ (Nat.ne_of_gt hel)).trans new
    have ok : ObjOk X.prog X.w (upd H s.heap.objs.size (.tup [.int (i : Nat), x])) h'' s.heap.objs.size (.tup [.int (i : Nat), x]) :=
      ⟨by show 2 ≤ sizeLine; decide, [.int i tk, v], .cons ⟨_, rfl⟩ (.cons kx .nil), ⟨_, new2, rfl, _, rfl⟩⟩
    have I1 := I.turnedNew (t' := tk + 1) (ch := [e, it]) (fun b ob hb q => by
      simp only [List.mem_cons, List.not_mem_nil, or_false, not_or] at hb
      exact (sb.2 b hb.1).trans (far b ob hb.1 hb.2 q)) hf (Nat.le_refl _) ok
    refine ⟨.ref s.heap.objs.size, _, I1, rfl, ⟨_, x, rfl, I.hok.fresh (Nat.le_refl _), rfl, fun ys hy => by rw [I.tuple_inj hy qx]; exact hx⟩, ⟨⟨v, ?_⟩, st.1.at fun o q => (sb.2 it (Ne.symm hne)).trans q, hne⟩, fun b hb => ?_⟩
    · have e1 : ((i + 1 : Nat) : Int) = (i : Int) + 1 := by omega
      rw [e1]
      exact he'
    · have hb' : b < s.heap.objs.size := by
        simp only [List.mem_cons, List.not_mem_nil, or_false] at hb
        rcases hb with rfl | rfl
        · exact hel
        · exact hil
      rw [upd_ne (Nat.ne_of_lt hb')]
      exact (hf b hb).1
  done := by
    intro X hP hw hK hc i pins s σ H E I hf ⟨⟨old, he⟩, hit, hne⟩ ⟨xs, qx, hx⟩
    subst hP hw hK
    obtain ⟨us, ru, tu, _⟩ := I.tuple qx
    have n1 := ru.length
    obtain ⟨ot, hot, hct, nt, hdt⟩ := id tu
    have hta : a ≠ it := fun q => by
      obtain ⟨o2, e2, c2, _⟩ := hit
      subst q
      rw [hot] at e2
      cases e2
      rw [hct] at c2
      exact absurd c2 (by decide)
    have hea : e ≠ a := fun q => by
      subst q
      have he2 := hot.symm.trans he
      cases he2
      exact absurd (show Value.type "enumerate" = Value.type "tuple" from hct) (by decide)
    unfold pyNext
    have hT : s.TypeIs (.ref e) "enumerate" := ⟨_, he, rfl⟩
    refine wpAny_bind (wpAny_attempt (wpAny_callSpecial?_slot (name := Str.ofString "__next__") hT F.slot_enumerate_next (wpAny_call_entry F.slot_enumerate_next hT F.entry_enumerate_next ?_ (F.args_enumerate_next_1 _))))
    show wpAny _ _ (field (.ref e) 2 >>= _) _ _ _
    refine wpAny_bind (wpAny_field he rfl (x := .ref it) rfl ?_)
    refine wpAny_bind (wpAny_nextOf_tuple_end (A := X.A.in1) (I.ok.hd hc) hit tu (by simp; omega) fun h' ex hk ⟨o, ho, hcl⟩ => ?_)
    refine wpAny_bind (wpAny_isInstance (T := "StopIteration") (b := true) ⟨o, ho, hcl⟩ isSubtype_stop ?_)
    obtain ⟨f0, f1, f2, f3, f4, f5⟩ := hf it (by simp)
    exact wpAny_pure ⟨rfl, I.turned (t' := s.toks) (fun b o hb q => hk b o hb q) f0 f1 f3 f4 f5⟩
  self := fun A i s Q E ⟨⟨_, he⟩, _⟩ h => wpAny_pyIter_enum he h
theorem walk_e {K : PySem.W.Frag} {a : Addr} {xs : List V} : Walk (IteT K a) xs.length (fun H => SqT K H a xs) (YPair (fun i => some (.int (i : Nat))) (fun i => xs[i]?)) :=
  ⟨fun i _ hi q => ⟨xs, xs[i], q, by simp [hi]⟩, fun _ q => ⟨xs, q, Nat.le_refl _⟩, fun i H v H' _ q ⟨T, x, h1, h2, h3, h4⟩ => ⟨T, .int (i : Nat), x, h1, h2, h3, rfl, h4 xs q⟩⟩
/-- for i, x in enumerate(t), t a tuple -/
theorem it_enumT {X : Cx} {τ : Tau} {O : Own} {R : List PyData → Own → Prop} {e : Expr} {elts : List Expr} {kk : Nat} {p pos tpos : Pos} (hm : X.mg "enumerate" = none) (h : DE X τ O e fun w O1 => ∃ ds, w = .d (.tuple ds) ∧ R (enumD ds) O1) (hg : Gl X "enumerate" := by rfl)
    (hs : starEach [e] X.env = [(false, eval e X.env)] := by rfl) : IterD X (.Tuple elts kk tpos) (.Call (.Name "enumerate" p) [e] [] pos) τ O R := by
  refine ⟨?_⟩
  intro σ Hr H Rr hE hS hR pins s I
  have hd := da_cons (PA := fun ws O1 => ∃ ds, ws = [.d (.tuple ds)] ∧ R (enumD ds) O1) (h.mono fun w O' ⟨n, e, h1⟩ => da_nil ⟨n, by rw [e], h1⟩) (by rw [hs]; rfl)
  refine Call_ (ld_blt I hg hm boot_enumerate (PyProof.Rows.callWith_type1 (thn (pa_ta.run pos pins s σ H _ I (hd σ Hr H _ hE hS fun vs H1 q => q)) fun us s1 ⟨vs, H1, I1, r1, ⟨ws, O1, Hr1, ⟨ds, hw, hr⟩, e1, s1', k1⟩⟩ => ?_) hs rfl))
  subst hw
  cases k1 with
  | cons k2 k3 =>
    cases k3
    cases k2 with
    | tup ha da =>
      obtain ⟨u, rfl, ru⟩ := vals1 r1
      cases ru
      obtain ⟨us, rv, tu, _⟩ := I1.tuple (same_t s1'.ex ha)
      refine enum_tup (show s1.heap.IsTuple _ us.toArray from tu) fun h' he hit hk => wpAny_pyIter_enum he ?_
      have I2 : Inv X pins σ H1 { s1 with heap := h' } := I1.kept (t' := s1.toks) hk
      refine ⟨s1.heap.objs.size + 1, [s1.heap.objs.size + 1, s1.heap.objs.size], _, _, H1, rfl, I2, turn_e _ (s1.heap.objs.size + 1) s1.heap.objs.size, ⟨⟨.none, he⟩, hit, Nat.succ_ne_self _⟩, fun b hb => ?_, hR _ H1 _ O1 Hr1 hr e1 s1' ?_⟩
      · have hle : s1.heap.objs.size ≤ b := by
          simp only [List.mem_cons, List.not_mem_nil, or_false] at hb
          rcases hb with rfl | rfl
          · exact Nat.le_add_right _ _
          · exact Nat.le_refl _
        exact I1.fpOk hle (I1.hok.fresh hle)
      · unfold ItOk
        have el : (enumD ds).length = ds.length := by simp [enumD]
        rw [el, ← da.len]
        exact (walk_e (K := X.K)).mono (fun H g => same_t g ha) fun i H x H' hi g y => gives_pair y fun a b h1 h2 => by
          cases h1
          obtain ⟨d, hd, kd⟩ := da.getV h2
          refine ⟨.int (i : Nat), d, ?_, .int _, kd⟩
          have hi' : i < ds.length := by rw [← da.len]; exact hi
          unfold enumD
          rw [List.getElem?_map, List.getElem?_range hi']
          simp [List.getD, hd]
/-! ### max, min of data that are alike -/
open PySem.W
theorem reads_of {X : Cx} {pins : List (Addr × Obj)} {σ : L2.St} {H : Hp} {s : Shared} {ds : List PyData} {vs : List V} {us : List Value} (I : Inv X pins σ H s) (h : DvAll X.K H vs ds) (r : Vals vs us) : ∃ as, ReadsAll s.heap us ds as := Dp.readsAll I ds vs us h.dp r
theorem c_maxT {X : Cx} {O : Own} {P : DL.W → Own → Prop} {d : PyData} {ds : List PyData} (hc : X.calm = true) (ha : AlikeAll (d :: ds)) (hu : X.A.units + 1 + PyData.depthAll (d :: ds) < cLine) (hi : ∃ n, maxD d ds = .int n) (h : P (.d (maxD d ds)) O) :
    CallD X (.builtin "max") [.d (.tuple (d :: ds))] O P := by
  refine ⟨?_⟩
  intro vs Hr H Q hS h1 hQ pins s σ us I r1
  cases h1 with
  | cons k1 k2 =>
    cases k2
    cases k1 with
    | tup e1 a1 =>
      obtain ⟨u, rfl, ru⟩ := vals1 r1
      cases ru
      obtain ⟨ws, rv, tv, _⟩ := I.tuple (same_t hS.ex e1)
      obtain ⟨as, ra⟩ := reads_of I (dvAll_mono hS.ex a1) rv
      obtain ⟨n, hn⟩ := hi
      refine max_tuple_data (I.ok.hd hc) (show s.heap.IsTuple _ ws.toArray from tv) (as := as) (by simpa using ra) ha hu fun i v h' tk bs hv hr hk => ?_
      rw [hn] at hr h
      have rel : RelV (.int n) v := by cases hr; exact ⟨_, rfl⟩
      exact ⟨.int n, H, I.kept (t' := tk) hk, rel, hQ _ _ (po_here h hS (.int n))⟩
theorem c_minT {X : Cx} {O : Own} {P : DL.W → Own → Prop} {d : PyData} {ds : List PyData} (hc : X.calm = true) (ha : AlikeAll (d :: ds)) (hu : X.A.units + 1 + PyData.depthAll (d :: ds) < cLine) (hi : ∃ n, minD d ds = .int n) (h : P (.d (minD d ds)) O) :
    CallD X (.builtin "min") [.d (.tuple (d :: ds))] O P := by
  refine ⟨?_⟩
  intro vs Hr H Q hS h1 hQ pins s σ us I r1
  cases h1 with
  | cons k1 k2 =>
    cases k2
    cases k1 with
    | tup e1 a1 =>
      obtain ⟨u, rfl, ru⟩ := vals1 r1
      cases ru
      obtain ⟨ws, rv, tv, _⟩ := I.tuple (same_t hS.ex e1)
      obtain ⟨as, ra⟩ := reads_of I (dvAll_mono hS.ex a1) rv
      obtain ⟨n, hn⟩ := hi
      refine min_tuple_data (I.ok.hd hc) (show s.heap.IsTuple _ ws.toArray from tv) (as := as) (by simpa using ra) ha hu fun i v h' tk bs hv hr hk => ?_
      rw [hn] at hr h
      have rel : RelV (.int n) v := by cases hr; exact ⟨_, rfl⟩
      exact ⟨.int n, H, I.kept (t' := tk) hk, rel, hQ _ _ (po_here h hS (.int n))⟩
theorem alike_ints {ns : List Int} : AlikeAll (ns.map PyData.int) := ⟨fun x hx y hy => by
  obtain ⟨i, _, rfl⟩ := List.mem_map.mp hx
  obtain ⟨j, _, rfl⟩ := List.mem_map.mp hy
  simp [alike], fun x hx => by
  obtain ⟨i, _, rfl⟩ := List.mem_map.mp hx
  simp⟩
/-- .. of two ints -/
theorem c_max2T {X : Cx} {O : Own} {P : DL.W → Own → Prop} {i j : Int} (hc : X.calm = true) (hu : X.A.units + 64 < cLine) (h : P (.d (.int (max i j))) O) : CallD X (.builtin "max") [.d (.tuple [.int i, .int j])] O P := by
  have e : maxD (.int i) [.int j] = .int (max i j) := maxD_ints i [j]
  exact c_maxT hc ⟨by simp [alike], by simp⟩ (by have := hu; simp [PyData.depthAll, PyData.depth]; omega) ⟨_, e⟩ (by rw [e]; exact h)
theorem c_min2T {X : Cx} {O : Own} {P : DL.W → Own → Prop} {i j : Int} (hc : X.calm = true) (hu : X.A.units + 64 < cLine) (h : P (.d (.int (min i j))) O) : CallD X (.builtin "min") [.d (.tuple [.int i, .int j])] O P := by
  have e : minD (.int i) [.int j] = .int (min i j) := minD_ints i [j]
  exact c_minT hc ⟨by simp [alike], by simp⟩ (by have := hu; simp [PyData.depthAll, PyData.depth]; omega) ⟨_, e⟩ (by rw [e]; exact h)
end DY

set_option Elab.async false
set_option linter.all false
set_option maxRecDepth 100000
set_option maxHeartbeats 2000000
namespace DL
open PySem PySem.Spec PyProof.Rows L2
/-! ### tests told once more -/
theorem if_dt {p : Prop} [Decidable p] {A B : Prop} (e : p) (h : A) : if decide p = true then A else B := if_t (decide_eq_true e) h
theorem if_df {p : Prop} [Decidable p] {A B : Prop} (e : ¬p) (h : B) : if decide p = true then A else B := if_f (decide_eq_false e) h
theorem if_nt {p : Prop} [Decidable p] {A B : Prop} (e : ¬p) (h : A) : if (!decide p) = true then A else B := if_t (by rw [decide_eq_false e]; rfl) h
theorem if_nf {p : Prop} [Decidable p] {A B : Prop} (e : p) (h : B) : if (!decide p) = true then A else B := if_f (by rw [decide_eq_true e]; rfl) h
theorem if_d2 {p : Prop} [Decidable p] {A B : Prop} (h1 : p → A) (h2 : ¬p → B) : if decide p = true then A else B := if_2 (fun e => h1 (of_decide_eq_true e)) (fun e => h2 (of_decide_eq_false e))
theorem if_n2 {p : Prop} [Decidable p] {A B : Prop} (h1 : ¬p → A) (h2 : p → B) : if (!decide p) = true then A else B := if_2 (fun e => h1 (by simpa using e)) (fun e => h2 (by simpa using e))
theorem if_n {k : Bool} {A B : Prop} (h : if k = true then B else A) : if (!k) = true then A else B := by
  cases k with
  | true => exact h
  | false => exact h
/-! ### of which type -/
def isIntD : PyData → Bool
  | .int _ => true
  | .bool _ => true
  | _ => false
def isBoolD : PyData → Bool
  | .bool _ => true
  | _ => false
def isStrD : PyData → Bool
  | .str _ => true
  | _ => false
def isListD : PyData → Bool
  | .list _ => true
  | _ => false
def isTupD : PyData → Bool
  | .tuple _ => true
  | _ => false
section
variable {X : Cx} {O : Own} {P : W → Own → Prop} {d : PyData}
theorem c_isInt (h : P (.d (.bool (isIntD d))) O) : CallD X (.builtin "isinstance") [.d d, .r (.ty "int")] O P := c_isi (.inl rfl) (by
  have e : isT "int" d = isIntD d := by cases d <;> rfl
  rw [e]; exact h)
theorem c_isBool (h : P (.d (.bool (isBoolD d))) O) : CallD X (.builtin "isinstance") [.d d, .r (.ty "bool")] O P := c_isi (.inr (.inl rfl)) (by
  have e : isT "bool" d = isBoolD d := by cases d <;> rfl
  rw [e]; exact h)
theorem c_isStr (h : P (.d (.bool (isStrD d))) O) : CallD X (.builtin "isinstance") [.d d, .r (.ty "str")] O P := c_isi (.inr (.inr (.inl rfl))) (by
  have e : isT "str" d = isStrD d := by cases d <;> rfl
  rw [e]; exact h)
theorem c_isList (h : P (.d (.bool (isListD d))) O) : CallD X (.builtin "isinstance") [.d d, .r (.ty "list")] O P := c_isi (.inr (.inr (.inr (.inl rfl)))) (by
  have e : isT "list" d = isListD d := by cases d <;> rfl
  rw [e]; exact h)
theorem c_isTup (h : P (.d (.bool (isTupD d))) O) : CallD X (.builtin "isinstance") [.d d, .r (.ty "tuple")] O P := c_isi (.inr (.inr (.inr (.inr rfl)))) (by
  have e : isT "tuple" d = isTupD d := by cases d <;> rfl
  rw [e]; exact h)
end
theorem isTupD_t {d : PyData} (h : isTupD d = true) : ∃ ds, d = .tuple ds := by cases d <;> first | exact ⟨_, rfl⟩ | cases h
theorem isStrD_t {d : PyData} (h : isStrD d = true) : ∃ z, d = .str z := by cases d <;> first | exact ⟨_, rfl⟩ | cases h
theorem isListD_t {d : PyData} (h : isListD d = true) : ∃ ds, d = .list ds := by cases d <;> first | exact ⟨_, rfl⟩ | cases h
theorem isBoolD_t {d : PyData} (h : isBoolD d = true) : ∃ k, d = .bool k := by cases d <;> first | exact ⟨_, rfl⟩ | cases h
theorem isIntD_t {d : PyData} (h : isIntD d = true) : (∃ i, d = .int i) ∨ ∃ k, d = .bool k := by cases d <;> first | exact .inl ⟨_, rfl⟩ | exact .inr ⟨_, rfl⟩ | cases h
/-! ### comprehensions that change nothing -/
section
variable {X : Cx} {τ : Tau} {O : Own} {elt t iter : Expr} {scope : Scope} {g : TG}
theorem lcd_map {vs : List Nat} {PL : Addr → List PyData → Own → Prop} {ds : List PyData} (f : PyData → PyData) (hz : ds.length < sizeLine)
    (hb : ∀ (i : Nat) (d : PyData), ds[i]? = some d → ∃ τ2, TgOk X.K g vs d (wipeT τ vs) τ2 ∧ ∀ (p : Addr) (acc : List PyData) (s : Shared) (H : Hp) (C : Addr) (cl : List (Str × Addr)) (fp : List Addr),
      DE (blk X scope s H C cl fp) τ2 ((p, .l acc) :: O) elt fun w O4 => w = .d (f d) ∧ O4 = (p, .l acc) :: O)
    (he : ∀ p, PL p (ds.map f) O) : LcD X τ O elt [] scope vs g PL ds := by
  refine lcd_pure (fun d => some (f d)) hz (fun i d hd => ?_) (fun p => by rw [List.filterMap_eq_map']; exact he p)
  obtain ⟨τ2, h1, h2⟩ := hb i d hd
  exact ⟨τ2, h1, true, (fun h => nomatch h), fun p acc s H C cl fp => ⟨dts_nil ⟨rfl, rfl⟩, fun _ => (h2 p acc s H C cl fp).mono fun w O4 ⟨a, b⟩ => ⟨b, f d, a, rfl⟩⟩⟩
/-- one test, told by k -/
theorem lcd_filter {vs : List Nat} {PL : Addr → List PyData → Own → Prop} {ds : List PyData} {c : Expr} (k : PyData → Bool) (f : PyData → PyData) (hz : ds.length < sizeLine)
    (hb : ∀ (i : Nat) (d : PyData), ds[i]? = some d → ∃ τ2, TgOk X.K g vs d (wipeT τ vs) τ2 ∧ ∀ (p : Addr) (acc : List PyData) (s : Shared) (H : Hp) (C : Addr) (cl : List (Str × Addr)) (fp : List Addr),
      DT (blk X scope s H C cl fp) τ2 ((p, .l acc) :: O) c (fun b O3 => b = k d ∧ O3 = (p, .l acc) :: O) ∧
      (k d = true → DE (blk X scope s H C cl fp) τ2 ((p, .l acc) :: O) elt fun w O4 => w = .d (f d) ∧ O4 = (p, .l acc) :: O))
    (he : ∀ p, PL p ((ds.filter k).map f) O) : LcD X τ O elt [c] scope vs g PL ds := by
  refine lcd_pure (fun d => if k d = true then some (f d) else none) hz (fun i d hd => ?_) (fun p => ?_)
  · obtain ⟨τ2, h1, h2⟩ := hb i d hd
    refine ⟨τ2, h1, k d, (fun h => by simp [h]), fun p acc s H C cl fp => ⟨dts_one (h2 p acc s H C cl fp).1, fun hk => ((h2 p acc s H C cl fp).2 hk).mono fun w O4 ⟨a, b⟩ => ⟨b, f d, a, by simp [hk]⟩⟩⟩
  · have e : ds.filterMap (fun d => if k d = true then some (f d) else none) = (ds.filter k).map f := by
      induction ds with
      | nil => rfl
      | cons x r ih =>
        have ih' := ih (by simp only [List.length_cons] at hz; omega) (fun i d hd => hb (i + 1) d (by simpa using hd))
        by_cases h : k x = true
        · simp [List.filter_cons, List.filterMap_cons, h]
          clear ih ih' hb he hz
          induction r with
          | nil => rfl
          | cons y r ih => by_cases h2 : k y = true <;> simp [List.filter_cons, List.filterMap_cons, h2, ih]
        · simp [List.filter_cons, List.filterMap_cons, h]
          clear ih ih' hb he hz
          induction r with
          | nil => rfl
          | cons y r ih => by_cases h2 : k y = true <;> simp [List.filter_cons, List.filterMap_cons, h2, ih]
    rw [e]
    exact he p
end
/-! ### ints in lists -/
theorem ixN_nat {m n : Nat} (h : n < m) : ixN m (n : Int) = some n := by simp [ixN, h]
theorem ixN_int {m : Nat} {i : Int} (h0 : 0 ≤ i) (h : i < m) : ixN m i = some i.toNat := by simp [ixN, h, h0]
theorem atI_get {α : Type} {ds : List α} {i : Int} {d : α} (h0 : 0 ≤ i) (h : ds[i.toNat]? = some d) : atI ds i = some d := by
  have h1 : i.toNat < ds.length := (List.getElem?_eq_some_iff.mp h).1
  simp [atI, ixN_int h0 (show i < ds.length by omega), h]
theorem atI_nat {α : Type} {ds : List α} {n : Nat} {d : α} (h : ds[n]? = some d) : atI ds (n : Int) = some d := atI_get (Int.natCast_nonneg n) (by simpa using h)
theorem at_ints {ns : List Int} {i : Int} (h0 : 0 ≤ i) (h1 : i < ns.length) : atI (ns.map PyData.int) i = some (.int (ns.getD i.toNat 0)) := by
  refine atI_get h0 ?_
  have h2 : i.toNat < ns.length := by omega
  simp [List.getElem?_map, List.getD, h2]
theorem at_intsS {ns : List Int} {i : Int} (h0 : 0 ≤ i) (h1 : i < ns.length) : atI ns i = some (ns.getD i.toNat 0) := by
  refine atI_get h0 ?_
  have h2 : i.toNat < ns.length := by omega
  simp [List.getD, h2]
theorem rangeD_at {lo : Int} {n i : Nat} {d : PyData} (h : (rangeD lo n)[i]? = some d) : i < n ∧ d = .int (lo + (i : Nat)) := by
  unfold rangeD at h
  rw [List.getElem?_map] at h
  by_cases hi : i < n
  · rw [List.getElem?_range hi] at h
    exact ⟨hi, by cases h; rfl⟩
  · rw [List.getElem?_eq_none (by simpa using hi)] at h
    cases h
theorem rangeD_len {lo : Int} {n : Nat} : (rangeD lo n).length = n := by simp [rangeD]
theorem rangeD_map {lo : Int} {n : Nat} (f : PyData → PyData) : (rangeD lo n).map f = (List.range n).map fun i => f (.int (lo + (i : Nat))) := by simp [rangeD]
/-! ### a box: a list of one int, owned -/
def BoxAt (O : Own) (j : Nat) (p : Addr) (n : Int) : Prop := O[j]? = some (p, Cell.l [.int n])
theorem BoxAt.set {O : Own} {j : Nat} {p : Addr} {n m : Int} (h : BoxAt O j p n) : BoxAt (O.set j (p, .l [.int m])) j p m := by
  have hj : j < O.length := (List.getElem?_eq_some_iff.mp h).1
  simp [BoxAt, hj]
theorem BoxAt.cons {O : Own} {j : Nat} {p : Addr} {n : Int} {x : Addr × Cell} (h : BoxAt O j p n) : BoxAt (x :: O) (j + 1) p n := by simpa [BoxAt] using h
/-- what the boxed number may become -/
abbrev O.bx (O : Own) (j : Nat) (p : Addr) (m : Int) : Own := O.set j (p, Cell.l [.int m])
/-- the promise of a digit taken from the box -/
def pTake : Pre := fun ws O P => ∃ (j : Nat) (p : Addr) (n z : Int), ws = [.r (.ref p), .d (.int z)] ∧ BoxAt O j p n ∧ 0 < z ∧ z < 2 ^ 63 ∧ P (.d (.int (n % z))) (O.set j (p, .l [.int (n / z)]))
theorem take_i {O : Own} {P : W → Own → Prop} {j : Nat} {p : Addr} {n z : Int} (b : BoxAt O j p n) (h0 : 0 < z) (h1 : z < 2 ^ 63) (h : ∀ r m : Int, 0 ≤ r → r < z → P (.d (.int r)) (O.set j (p, .l [.int m]))) : pTake [.r (.ref p), .d (.int z)] O P :=
  ⟨j, p, n, z, rfl, b, h0, h1, h _ _ (Int.emod_nonneg _ (by omega)) (Int.emod_lt_of_pos _ h0)⟩
/-- the promise of a number of the script -/
def pNumber : Pre := fun ws O P => ∃ (ns : List Int) (k : Int), ws = [.s (.list (ns.map .int)), .d (.int k)] ∧ ns.length ≤ 63 ∧ 0 ≤ k ∧ k < 1000 ∧ ∀ m : Int, P (.d (.int m)) O
theorem number_i {O : Own} {P : W → Own → Prop} {ns : List Int} {k : Int} (hl : ns.length ≤ 63) (h0 : 0 ≤ k) (h1 : k < 1000) (h : ∀ m : Int, P (.d (.int m)) O) : pNumber [.s (.list (ns.map .int)), .d (.int k)] O P := ⟨ns, k, rfl, hl, h0, h1, h⟩
/-- the promise of a law -/
def pLaw : Pre := fun ws O P => ∃ ns : List Int, ws = [.s (.list (ns.map .int))] ∧ ns.length ≤ 63 ∧ ∀ O2, P (.d (.bool true)) O2
theorem dpAll_ints {K : PySem.W.Frag} {H : Hp} : ∀ ns : List Int, DpAll K H (ns.map V.int) (ns.map PyData.int)
  | [] => .nil
  | n :: ns => .cons (.int n) (dpAll_ints ns)
theorem law_start {K : PySem.W.Frag} {H : Hp} {a : Addr} {ns : List Int} {X : XK} (hl : ns.length ≤ 63) (hS : SqL K H a (ns.map V.int)) : spD K 1 pLaw [V.ref a] H (fun v _ => v = V.bl true) X := by
  refine ⟨[.s (.list (ns.map .int))], [], H, fun w _ => w = .d (.bool true), ⟨Same.refl _, fun x hx => (nomatch hx), List.nodup_nil⟩, .cons (Dp.lst hS (dpAll_ints ns)) .nil, rfl, ⟨ns, rfl, hl, fun _ => rfl⟩, fun v H' ⟨w, _, _, hw, _, _, k⟩ => ?_⟩
  subst hw
  cases k
  rfl
/-! ### what the top has written -/
/-- a name of the top that holds data -/
structure GC (K : PySem.W.Frag) (mg : Str → Option Value) (x : Str) (d : PyData) : Prop where
  ex : ∃ (v : V) (u : Value), mg x = some u ∧ RelV v u ∧ ∀ Hr, Dv K Hr v d
theorem GC.int {K : PySem.W.Frag} {mg : Str → Option Value} {x : Str} {i : Int} {t} (h : mg x = some (.int i t)) : GC K mg x (.int i) := ⟨.int i, _, h, ⟨_, rfl⟩, fun _ => .int i⟩
theorem GC.str {K : PySem.W.Frag} {mg : Str → Option Value} {x : Str} {i : Str} {t} (h : mg x = some (.str i t)) : GC K mg x (.str i) := ⟨.str i, _, h, ⟨_, rfl⟩, fun _ => .str i⟩
theorem dvAll_ints {K : PySem.W.Frag} {H : Hp} : ∀ ns : List Int, DvAll K H (ns.map V.int) (ns.map PyData.int)
  | [] => .nil
  | n :: ns => .cons (.int n) (dvAll_ints ns)
theorem GC.ints {K : PySem.W.Frag} {mg : Str → Option Value} {x : Str} {a : Addr} {ns : List Int} {od : Option Addr} {its : Array Value} {n : Nat} {sl} (h : mg x = some (.ref a)) (l : K.lookup a = some ⟨.type "tuple", od, .seq its n, sl⟩) (hz : its.size ≤ sizeLine) (hv : Vals (ns.map V.int) its.toList) : GC K mg x (.tuple (ns.map PyData.int)) :=
  ⟨.ref a, _, h, rfl, fun _ => .tup (.inr ⟨_, its, n, l, rfl, rfl, hz, hv⟩) (dvAll_ints ns)⟩
theorem de_const {X : Cx} {τ : Tau} {O : Own} {P : W → Own → Prop} {x : Str} {pos : Pos} {d : PyData} (c : GC X.K X.mg x d) (h : P (.d d) O) (hg : Gl X x := by rfl) (hd : (x == ("__debug__" : Str)) = false := by decide) : DE X τ O (.Name x pos) P := by
  obtain ⟨v, u, h1, h2, h3⟩ := c.ex
  exact de_glob (w := .d d) h1 h2 (fun Hr => h3 Hr) h hg hd
theorem call_tag {X : Cx} {τ : Tau} {O : Own} {P : W → Own → Prop} (x : Str) {p pos : Pos} {es : List Expr} {ks} (h : DE X τ O (.Call (.Name x p) es ks pos) P) : DE X τ O (.Call (.Name x p) es ks pos) P := h
theorem name_tag {X : Cx} {τ : Tau} {O : Own} {P : W → Own → Prop} (x : Str) {pos : Pos} (h : DE X τ O (.Name x pos) P) : DE X τ O (.Name x pos) P := h
/-! ### comprehensions over one name, over two -/
section
variable {X : Cx} {τ : Tau} {O : Own} {P : W → Own → Prop} {D : DEn} {elt iter : Expr} {ifs : List Expr} {scope : Scope} {pos pos2 tp tp2 spos : Pos} {y y2 : Str} {kk : Nat}
abbrev gN2 (K : PySem.W.Frag) (i j : Nat) : TG := gTup K 2 (gCons (gName i) (gCons (gName j) gNil))
theorem de_lc1 (i : Nat) (hN : X.N.Nodup) (ok : BlkOk X.N X.env.scope scope [(y, i)])
    (h : IterD X (.Name y tp) iter τ O fun ds O1 => LcD X τ O1 elt ifs scope [i] (gName i) (fun _ acc O2 => P (.d (.list acc)) O2) ds)
    (hg : ∀ (s : Shared) (H : Hp) (C : Addr) (cl : List (Str × Addr)) (fp : List Addr), PG (blk X scope s H C cl fp) (.Name y tp) (gName i) := by exact fun _ _ _ _ _ => pg_name (by assumption) rfl (by first | exact Or.inl rfl | exact Or.inr rfl)) (hc : X.calm = true := by rfl) (hs : ∀ x, foldedSetIterable iter X.env x = pure x := by intro _; rfl) :
    DE X τ O (.ListComp elt [⟨.Name y tp, iter, ifs, 0⟩] scope pos) P := de_lc [(y, i)] (gName i) hN ok hg h hc hs
theorem de_lc1O (i : Nat) (hN : X.N.Nodup) (ok : BlkOk X.N X.env.scope scope [(y, i)])
    (h : IterD X (.Name y tp) iter τ O fun ds O1 => LcD X τ O1 elt ifs scope [i] (gName i) (fun p acc O2 => P (.r (.ref p)) ((p, .l acc) :: O2)) ds)
    (hg : ∀ (s : Shared) (H : Hp) (C : Addr) (cl : List (Str × Addr)) (fp : List Addr), PG (blk X scope s H C cl fp) (.Name y tp) (gName i) := by exact fun _ _ _ _ _ => pg_name (by assumption) rfl (by first | exact Or.inl rfl | exact Or.inr rfl)) (hc : X.calm = true := by rfl) (hs : ∀ x, foldedSetIterable iter X.env x = pure x := by intro _; rfl) :
    DE X τ O (.ListComp elt [⟨.Name y tp, iter, ifs, 0⟩] scope pos) P := de_lcO [(y, i)] (gName i) hN ok hg h hc hs
theorem de_lc2 (i j : Nat) (hN : X.N.Nodup) (ok : BlkOk X.N X.env.scope scope [(y, i), (y2, j)])
    (h : IterD X (.Tuple [.Name y tp, .Name y2 tp2] kk pos2) iter τ O fun ds O1 => LcD X τ O1 elt ifs scope [i, j] (gN2 X.K i j) (fun _ acc O2 => P (.d (.list acc)) O2) ds)
    (hg : ∀ (s : Shared) (H : Hp) (C : Addr) (cl : List (Str × Addr)) (fp : List Addr), PG (blk X scope s H C cl fp) (.Tuple [.Name y tp, .Name y2 tp2] kk pos2) (gN2 X.K i j) := by
      exact fun _ _ _ _ _ => pg_tup rfl (pgs_cons (pg_name (by assumption) rfl (by first | exact Or.inl rfl | exact Or.inr rfl)) (pgs_cons (pg_name (by assumption) rfl (by first | exact Or.inl rfl | exact Or.inr rfl)) pgs_nil))) (hc : X.calm = true := by rfl) (hs : ∀ x, foldedSetIterable iter X.env x = pure x := by intro _; rfl) :
    DE X τ O (.ListComp elt [⟨.Tuple [.Name y tp, .Name y2 tp2] kk pos2, iter, ifs, 0⟩] scope pos) P := de_lc [(y, i), (y2, j)] (gN2 X.K i j) hN ok hg h hc hs
theorem ds_setLc1 (k i : Nat) {z : Str} {zp : Pos} (hN : X.N.Nodup) (ok : BlkOk X.N X.env.scope scope [(y, i)])
    (h : IterD X (.Name y tp) iter τ O fun ds O1 => LcD X τ O1 elt ifs scope [i] (gName i) (fun _ acc O2 => D.nx (τ.set k (some (.d (.list acc)))) O2) ds)
    (hg : ∀ (s : Shared) (H : Hp) (C : Addr) (cl : List (Str × Addr)) (fp : List Addr), PG (blk X scope s H C cl fp) (.Name y tp) (gName i) := by exact fun _ _ _ _ _ => pg_name (by assumption) rfl (by first | exact Or.inl rfl | exact Or.inr rfl))
    (hsw : swapsWith (.ListComp elt [⟨.Name y tp, iter, ifs, 0⟩] scope pos) (some (.Name z zp)) spos.line X.env = pure true := by exact sw_true rfl rfl rfl (by decide +kernel))
    (hc : X.calm = true := by rfl) (hs : ∀ x, foldedSetIterable iter X.env x = pure x := by intro _; rfl) (hy : X.N[k]? = some z := by rfl) (hyl : X.env.scope.names.lookup z = some .local := by rfl) :
    DS X τ O (.Assign [.Name z zp] (.ListComp elt [⟨.Name y tp, iter, ifs, 0⟩] scope pos) spos) D := ds_setLc k [(y, i)] (gName i) hN ok hg h hsw hc hs hy hyl
end
/-! ### vectors: tuples of ints -/
abbrev vec (ns : List Int) : PyData := .tuple (ns.map PyData.int)
theorem ints_at {ns : List Int} {i : Nat} {d : PyData} (h : (ns.map PyData.int)[i]? = some d) : ∃ n, ns[i]? = some n ∧ d = .int n := by
  rw [List.getElem?_map] at h
  cases e : ns[i]? with
  | none => rw [e] at h; cases h
  | some n => rw [e] at h; cases h; exact ⟨n, rfl, rfl⟩
theorem zipD_ints : ∀ (xs ys : List Int), zipD (xs.map PyData.int) (ys.map PyData.int) = (List.zip xs ys).map fun p => PyData.tuple [.int p.1, .int p.2]
  | [], _ => rfl
  | _ :: _, [] => rfl
  | x :: xs, y :: ys => by
    have := zipD_ints xs ys
    simp only [zipD, List.map_cons, List.zipWith_cons_cons, List.zip_cons_cons] at this ⊢
    rw [this]
theorem zipD_at {xs ys : List Int} {i : Nat} {d : PyData} (h : (zipD (xs.map PyData.int) (ys.map PyData.int))[i]? = some d) : ∃ a b, d = .tuple [.int a, .int b] := by
  rw [zipD_ints, List.getElem?_map] at h
  cases e : (List.zip xs ys)[i]? with
  | none => rw [e] at h; cases h
  | some n => rw [e] at h; cases h; exact ⟨n.1, n.2, rfl⟩
theorem at0 {α : Type} {x : α} {r : List α} : atI (x :: r) 0 = some x := atI_get (by decide) rfl
/-- what is made of a pair of ints -/
def pairF (f : Int → Int → PyData) : PyData → PyData
  | .tuple [.int a, .int b] => f a b
  | _ => .none
theorem zipD_pairF {xs ys : List Int} (f : Int → Int → Int) : (zipD (xs.map PyData.int) (ys.map PyData.int)).map (pairF fun a b => .int (f a b)) = ((List.zip xs ys).map fun p => f p.1 p.2).map PyData.int := by
  rw [zipD_ints, List.map_map, List.map_map]
  rfl
theorem zipD_pairB {xs ys : List Int} (f : Int → Int → Bool) : (zipD (xs.map PyData.int) (ys.map PyData.int)).map (pairF fun a b => .bool (f a b)) = ((List.zip xs ys).map fun p => f p.1 p.2).map PyData.bool := by
  rw [zipD_ints, List.map_map, List.map_map]
  rfl
/-! ### a joint between statements -/
section
variable {X : Cx} {τ : Tau} {O : Own} {D D' : DEn} {st : Stmt} {rest : List Stmt}
theorem EOk.back {K : PySem.W.Frag} {Hr : Hp} {E : Ends} (h : EOk K Hr D' E) (n : ∀ τ' O', D.nx τ' O' → D'.nx τ' O') (r : ∀ w O', D.rt w O' → D'.rt w O') (b : ∀ τ' O', D.bk τ' O' → D'.bk τ' O') (c : ∀ τ' O', D.ct τ' O' → D'.ct τ' O') : EOk K Hr D E :=
  ⟨fun σ H ⟨τ', O', Hr', p, q⟩ => h.nx σ H ⟨τ', O', Hr', n _ _ p, q⟩, fun v H ⟨w, O', Hr', p, q⟩ => h.rt v H ⟨w, O', Hr', r _ _ p, q⟩, fun σ H ⟨τ', O', Hr', p, q⟩ => h.bk σ H ⟨τ', O', Hr', b _ _ p, q⟩, fun σ H ⟨τ', O', Hr', p, q⟩ => h.ct σ H ⟨τ', O', Hr', c _ _ p, q⟩⟩
theorem dss_mid (R : Tau → Own → Prop) (h : DS X τ O st { D with nx := R }) (h2 : ∀ τ' O', R τ' O' → DSs X τ' O' rest D) : DSs X τ O (st :: rest) D :=
  dss_cons ⟨fun σ Hr H E hE hS hD => h σ Hr H E hE hS (EOk.back hD (fun τ' O' p => h2 τ' O' p) (fun _ _ p => p) (fun _ _ p => p) (fun _ _ p => p))⟩
end
theorem cpow {i j : Int} (h : 0 ≤ j ∧ j ≤ 1000000 ∧ i.natAbs < 18446744073709551616) : CPow i j := ⟨h.1, h.2.1, Nat.lt_of_lt_of_le h.2.2 (by decide)⟩
theorem cutL_len {α : Type} {ds : List α} {lo hi : Option Int} : (cutL ds lo hi).length ≤ ds.length := by
  unfold cutL
  rw [List.length_take, List.length_drop]
  omega
theorem at_some {α : Type} {ds : List α} {i : Int} (h0 : 0 ≤ i) (h1 : i < ds.length) : ∃ d, atI ds i = some d := by
  have h2 : i.toNat < ds.length := by omega
  exact ⟨ds[i.toNat], atI_get h0 (by simp [h2])⟩
theorem ix_any {X : Cx} {O : Own} {P : W → Own → Prop} {w1 : W} {ds : List PyData} {i : Int} (r : RdL w1 O ds) (h0 : 0 ≤ i) (h1 : i < ds.length) (h : ∀ d, d ∈ ds → P (.d d) O) : IxD X w1 (.d (.int i)) O P := by
  have h2 : i.toNat < ds.length := by omega
  exact ix_l r (atI_get h0 (show ds[i.toNat]? = some ds[i.toNat] by simp [h2])) (h _ (List.getElem_mem _))
theorem ix_tany {X : Cx} {O : Own} {P : W → Own → Prop} {ds : List PyData} {i : Int} (h0 : 0 ≤ i) (h1 : i < ds.length) (h : ∀ d, d ∈ ds → P (.d d) O) : IxD X (.d (.tuple ds)) (.d (.int i)) O P := by
  have h2 : i.toNat < ds.length := by omega
  exact ix_t (atI_get h0 (show ds[i.toNat]? = some ds[i.toNat] by simp [h2])) (h _ (List.getElem_mem _))
end DL

set_option Elab.async false
set_option linter.all false
set_option maxRecDepth 100000
set_option maxHeartbeats 2000000
namespace DL
open PySem PySem.Spec PyProof.Rows L2
/-! ### equality of data -/
mutual
theorem eqv_refl : ∀ d : PyData, d.canLay0 = true → PyData.eqv d d = true
  | .none, _ => rfl
  | .bool b, _ => by cases b <;> rfl
  | .int i, _ => by simp [PyData.eqv]
  | .str x, _ => by simp [PyData.eqv]
  | .list xs, h => by
    simp only [PyData.eqv]
    exact eqvAll_refl xs (by simpa [PyData.canLay0] using h)
  | .tuple xs, h => by
    simp only [PyData.eqv]
    exact eqvAll_refl xs (by simpa [PyData.canLay0] using h)
  | .dict _, h => by simp [PyData.canLay0] at h
theorem eqvAll_refl : ∀ ds : List PyData, PyData.canLayAll0 ds = true → PyData.eqvAll ds ds = true
  | [], _ => rfl
  | x :: xs, h => by
    simp only [PyData.canLayAll0, Bool.and_eq_true] at h
    simp only [PyData.eqvAll, Bool.and_eq_true]
    exact ⟨eqv_refl x h.1, eqvAll_refl xs h.2⟩
end

mutual
def nbD : PyData → Bool
  | .none => true
  | .int _ => true
  | .str _ => true
  | .list xs => nbAll xs
  | .tuple xs => nbAll xs
  | .bool _ => false
  | .dict _ => false
def nbAll : List PyData → Bool
  | [] => true
  | x :: xs => nbD x && nbAll xs
end
mutual
theorem eqv_nb : ∀ (d e : PyData), nbD d = true → PyData.eqv d e = true → nbD e = true → d = e
  | .none, e, _, h, _ => by cases e <;> first | rfl | (simp [PyData.eqv] at h)
  | .bool _, _, h, _, _ => by simp [nbD] at h
  | .int i, e, _, h, h2 => by cases e <;> first | (simp [PyData.eqv] at h; rw [h]; done) | (simp [PyData.eqv] at h; done) | (simp [nbD] at h2)
  | .str i, e, _, h, h2 => by cases e <;> first | (simp [PyData.eqv] at h; rw [h]; done) | (simp [PyData.eqv] at h; done)
  | .list xs, e, h1, h, h2 => by
    cases e <;> first
      | (simp only [PyData.eqv] at h
         rw [eqvAll_nb xs _ (by simpa [nbD] using h1) h (by simpa [nbD] using h2)]; done)
      | (simp [PyData.eqv] at h; done)
  | .tuple xs, e, h1, h, h2 => by
    cases e <;> first
      | (simp only [PyData.eqv] at h
         rw [eqvAll_nb xs _ (by simpa [nbD] using h1) h (by simpa [nbD] using h2)]; done)
      | (simp [PyData.eqv] at h; done)
  | .dict _, _, h, _, _ => by simp [nbD] at h
theorem eqvAll_nb : ∀ (ds es : List PyData), nbAll ds = true → PyData.eqvAll ds es = true → nbAll es = true → ds = es
  | [], es, _, h, _ => by cases es <;> first | rfl | (simp [PyData.eqvAll] at h)
  | x :: xs, es, h1, h, h2 => by
    cases es with
    | nil => simp [PyData.eqvAll] at h
    | cons y ys =>
      simp only [PyData.eqvAll, Bool.and_eq_true] at h
      simp only [nbAll, Bool.and_eq_true] at h1 h2
      rw [eqv_nb x y h1.1 h.1 h2.1, eqvAll_nb xs ys h1.2 h.2 h2.2]
end
theorem eqv_iff {d e : PyData} (hd : nbD d = true) (he : nbD e = true) (hc : d.canLay0 = true) : PyData.eqv d e = true ↔ d = e :=
  ⟨fun h => eqv_nb d e hd h he, fun h => by rw [← h]; exact eqv_refl d hc⟩
theorem canLayAll_map {α : Type} {f : α → PyData} : ∀ (xs : List α), (∀ x ∈ xs, (f x).canLay0 = true) → PyData.canLayAll0 (xs.map f) = true
  | [], _ => rfl
  | x :: xs, h => by
    simp only [List.map_cons, PyData.canLayAll0, Bool.and_eq_true]
    exact ⟨h x (by simp), canLayAll_map xs fun y hy => h y (by simp [hy])⟩
theorem nbAll_map {α : Type} {f : α → PyData} : ∀ (xs : List α), (∀ x ∈ xs, nbD (f x) = true) → nbAll (xs.map f) = true
  | [], _ => rfl
  | x :: xs, h => by
    simp only [List.map_cons, nbAll, Bool.and_eq_true]
    exact ⟨h x (by simp), nbAll_map xs fun y hy => h y (by simp [hy])⟩
theorem depthAll_map {α : Type} {f : α → PyData} {n : Nat} : ∀ (xs : List α), (∀ x ∈ xs, (f x).depth ≤ n) → PyData.depthAll (xs.map f) ≤ n
  | [], _ => Nat.zero_le n
  | x :: xs, h => by
    simp only [List.map_cons, PyData.depthAll]
    exact Nat.max_le.mpr ⟨h x (by simp), depthAll_map xs fun y hy => h y (by simp [hy])⟩
theorem shaped_mk {d : PyData} (h : d.canLay0 = true) (h2 : d.depth ≤ 64) : SeqAt.shaped d = true := by simp [SeqAt.shaped, h, h2]
theorem vec_lay (ns : List Int) : (vec ns).canLay0 = true := by
  simp only [vec, PyData.canLay0]
  exact canLayAll_map ns fun _ _ => rfl
theorem vec_depth (ns : List Int) : (vec ns).depth ≤ 1 := by
  simp only [vec, PyData.depth]
  exact Nat.succ_le_succ (depthAll_map ns fun _ _ => Nat.le_refl _)
theorem vec_nb (ns : List Int) : nbD (vec ns) = true := by
  simp only [vec, nbD]
  exact nbAll_map ns fun _ _ => rfl
theorem shaped_vec (ns : List Int) : SeqAt.shaped (vec ns) = true := shaped_mk (vec_lay ns) (Nat.le_trans (vec_depth ns) (by decide))
theorem shaped_vecs (vs : List (List Int)) : SeqAt.shaped (.list (vs.map vec)) = true := by
  refine shaped_mk ?_ ?_
  · simp only [PyData.canLay0]
    exact canLayAll_map vs fun v _ => vec_lay v
  · simp only [PyData.depth]
    exact Nat.le_trans (Nat.succ_le_succ (depthAll_map vs fun v _ => vec_depth v)) (by decide)
theorem eqv_self {d : PyData} (h : SeqAt.shaped d = true) : PyData.eqv d d = true := by
  simp only [SeqAt.shaped, Bool.and_eq_true] at h
  exact eqv_refl d h.1
theorem cutL_take {α : Type} {ds : List α} {i : Int} (h : 0 ≤ i) : cutL ds none (some i) = ds.take i.toNat := by
  obtain ⟨n, rfl⟩ := Int.eq_ofNat_of_zero_le h
  have h1 : HT.sIx ds.length ds.length (some (n : Int)) = min n ds.length := HT.sIx_nat ds.length ds.length n
  have h2 : HT.sIx ds.length 0 none = 0 := HT.sIx_none _ _
  unfold cutL
  rw [h1, h2, List.drop_zero, Nat.sub_zero]
  show List.take (min n ds.length) ds = List.take n ds
  rw [← List.take_take, List.take_length]
theorem take_j {O : Own} {P : W → Own → Prop} {j : Nat} {p : Addr} {n n0 z : Int} (b : BoxAt O j p n0) (h0 : 0 < z) (h1 : z < 2 ^ 63) (h : ∀ r m : Int, 0 ≤ r → r < z → P (.d (.int r)) (O.set j (p, .l [.int m]))) : pTake [.r (.ref p), .d (.int z)] (O.set j (p, .l [.int n])) P :=
  take_i b.set h0 h1 fun r m a c => by rw [List.set_set]; exact h r m a c
theorem rangeD_at0 {n i : Nat} {d : PyData} (h : (rangeD 0 n)[i]? = some d) : i < n ∧ d = .int (i : Nat) := by
  obtain ⟨h1, h2⟩ := rangeD_at h
  exact ⟨h1, by rw [h2, Int.zero_add]⟩
end DL

set_option Elab.async false
set_option linter.all false
set_option maxRecDepth 100000
set_option maxHeartbeats 2000000
namespace DL
open PySem PySem.Spec PyProof.Rows L2
/-! ### x in a tuple of data of any depth -/
section
variable {X : Cx} {O : Own} {P : W → Own → Prop} {w1 w2 : W}
theorem op_tupD (neg : Bool) (hu : X.A.units + 65 < cLine) : OpR X (compareOp (if neg then .NotIn else .In)) (fun x y H Q => ∃ d ds, Dp X.K H x d ∧ Dp X.K H y (.tuple ds) ∧ SeqAt.shaped d = true ∧ SeqAt.shaped (.list ds) = true ∧ Q (.bl (if neg then !ds.any fun z => PyData.eqv z d else ds.any fun z => PyData.eqv z d)) H) := by
  intro pins s σ H x y v u Q I rx ry ⟨d, ds, hd, he, sd, se, q⟩
  obtain ⟨as, r1⟩ := Dp.reads I d x v hd rx
  obtain ⟨bs, r2⟩ := Dp.reads I (.tuple ds) y u he ry
  cases neg with
  | true => exact SeqAt.notIn_tuple_reads r2 r1 (SeqAt.canLay_of_shaped se) (SeqAt.canLay_of_shaped sd) (room_in_shaped sd hu) ⟨.bl _, H, I, rfl, q⟩
  | false => exact SeqAt.in_tuple_reads r2 r1 (SeqAt.canLay_of_shaped se) (SeqAt.canLay_of_shaped sd) (room_in_shaped sd hu) ⟨.bl _, H, I, rfl, q⟩
theorem b_inTD {d : PyData} {ds : List PyData} (hu : X.A.units + 65 < cLine) (hd : SeqAt.shaped d = true) (he : SeqAt.shaped (.list ds) = true) (h : P (.d (.bool (ds.any fun z => PyData.eqv z d))) O) : BinD X (compareOp .In) (.d d) (.d (.tuple ds)) O P :=
  bind_of (op_tupD false hu) fun v1 v2 Hr H Q hS h1 h2 hQ => ⟨d, ds, (dv_mono hS.ex h1).dp, (dv_mono hS.ex h2).dp, hd, he, hQ _ _ (po_here h hS (.bl _))⟩
theorem b_niTD {d : PyData} {ds : List PyData} (hu : X.A.units + 65 < cLine) (hd : SeqAt.shaped d = true) (he : SeqAt.shaped (.list ds) = true) (h : P (.d (.bool (!ds.any fun z => PyData.eqv z d))) O) : BinD X (compareOp .NotIn) (.d d) (.d (.tuple ds)) O P :=
  bind_of (op_tupD true hu) fun v1 v2 Hr H Q hS h1 h2 hQ => ⟨d, ds, (dv_mono hS.ex h1).dp, (dv_mono hS.ex h2).dp, hd, he, hQ _ _ (po_here h hS (.bl _))⟩
end
/-! ### signs of a text -/
def signF (g : Nat → PyData) : PyData → PyData
  | .str s => match s.cps.toList with
    | [c] => g c
    | _ => .none
  | _ => .none
theorem signs_map (g : Nat → PyData) (z : Str) : (signs z).map (signF g) = z.cps.toList.map g := by
  unfold signs
  rw [List.map_map]
  rfl
theorem signs_at {z : Str} {i : Nat} {d : PyData} (h : (signs z)[i]? = some d) : ∃ c, d = .str ⟨#[c]⟩ ∧ z.cps.toList[i]? = some c := by
  unfold signs at h
  rw [List.getElem?_map] at h
  cases e : z.cps.toList[i]? with
  | none => rw [e] at h; cases h
  | some c => rw [e] at h; cases h; exact ⟨c, rfl, rfl⟩
theorem signs_len {z : Str} : (signs z).length = z.length := by simp [signs, Str.length]
theorem cutL_drop {α : Type} {ds : List α} {i : Int} (h : 0 ≤ i) : cutL ds (some i) none = ds.drop i.toNat := by
  obtain ⟨n, rfl⟩ := Int.eq_ofNat_of_zero_le h
  have h1 : HT.sIx ds.length 0 (some (n : Int)) = min n ds.length := HT.sIx_nat ds.length 0 n
  have h2 : HT.sIx ds.length ds.length none = ds.length := HT.sIx_none _ _
  unfold cutL
  rw [h1, h2]
  show List.take (ds.length - min n ds.length) (ds.drop (min n ds.length)) = ds.drop n
  by_cases hn : n ≤ ds.length
  · rw [Nat.min_eq_left hn, List.take_of_length_le (by rw [List.length_drop]; exact Nat.le_refl _)]
  · rw [Nat.min_eq_right (by omega), List.drop_length, List.drop_of_length_le (by omega), List.take_nil]
theorem cutL_mid {α : Type} {ds : List α} {i j : Int} (h : 0 ≤ i) (h2 : 0 ≤ j) : cutL ds (some i) (some j) = (ds.take j.toNat).drop i.toNat := by
  obtain ⟨n, rfl⟩ := Int.eq_ofNat_of_zero_le h
  obtain ⟨m, rfl⟩ := Int.eq_ofNat_of_zero_le h2
  have e1 : HT.sIx ds.length 0 (some (n : Int)) = min n ds.length := HT.sIx_nat ds.length 0 n
  have e2 : HT.sIx ds.length ds.length (some (m : Int)) = min m ds.length := HT.sIx_nat ds.length ds.length m
  unfold cutL
  rw [e1, e2]
  show List.take (min m ds.length - min n ds.length) (ds.drop (min n ds.length)) = (ds.take m).drop n
  rw [List.drop_take]
  by_cases hn : n ≤ ds.length
  · rw [Nat.min_eq_left hn]
    by_cases hm : m ≤ ds.length
    · rw [Nat.min_eq_left hm]
    · rw [Nat.min_eq_right (by omega), List.take_of_length_le (by rw [List.length_drop]; omega), List.take_of_length_le (by rw [List.length_drop]; omega)]
  · rw [Nat.min_eq_right (show ds.length ≤ n by omega), List.drop_length, List.drop_of_length_le (show ds.length ≤ n by omega), List.take_nil, List.take_nil]
theorem Room.u65 {k : Nat} {A : Around} (h : Room k A) : A.units + 65 < cLine := by have := h.un; omega
/-! ### data of bounded depth, of texts whose signs are told -/
def okN (ok : Str → Bool) (m : Nat) : Nat → PyData → Bool
  | _, .none => true
  | _, .int _ => true
  | _, .str z => ok z
  | n + 1, .tuple ds => decide (ds.length ≤ m) && ds.all (okN ok m n)
  | _, _ => false
section
variable {ok : Str → Bool} {m : Nat}
theorem okN_up : ∀ {n : Nat} {d : PyData}, okN ok m n d = true → okN ok m (n + 1) d = true
  | _, .none, _ => by simp [okN]
  | _, .int _, _ => by simp [okN]
  | _, .str _, h => by simpa [okN] using h
  | 0, .tuple _, h => by simp [okN] at h
  | n + 1, .tuple ds, h => by
    simp only [okN, Bool.and_eq_true, List.all_eq_true] at h
    rw [okN, Bool.and_eq_true, List.all_eq_true]
    exact ⟨h.1, fun d hd => okN_up (h.2 d hd)⟩
  | 0, .bool _, h => by simp [okN] at h
  | _ + 1, .bool _, h => by simp [okN] at h
  | 0, .list _, h => by simp [okN] at h
  | _ + 1, .list _, h => by simp [okN] at h
  | 0, .dict _, h => by simp [okN] at h
  | _ + 1, .dict _, h => by simp [okN] at h
theorem okN_le {n k : Nat} {d : PyData} (h : okN ok m n d = true) (hk : n ≤ k) : okN ok m k d = true := by
  induction hk with
  | refl => exact h
  | step _ ih => exact okN_up ih
theorem okN_lay (hs : ∀ z, ok z = true → PyData.strOk z = true) : ∀ {n : Nat} {d : PyData}, okN ok m n d = true → d.canLay0 = true ∧ d.depth ≤ n ∧ nbD d = true
  | _, .none, _ => ⟨rfl, Nat.zero_le _, rfl⟩
  | _, .int _, _ => ⟨rfl, Nat.zero_le _, rfl⟩
  | n, .str z, h => ⟨hs z (by cases n <;> simpa [okN] using h), Nat.zero_le _, rfl⟩
  | 0, .tuple _, h => by simp [okN] at h
  | n + 1, .tuple ds, h => by
    simp only [okN, Bool.and_eq_true, List.all_eq_true] at h
    have ih : ∀ d ∈ ds, d.canLay0 = true ∧ d.depth ≤ n ∧ nbD d = true := fun d hd => okN_lay hs (h.2 d hd)
    refine ⟨?_, ?_, ?_⟩
    · simp only [PyData.canLay0]
      have := canLayAll_map (f := id) ds fun d hd => (ih d hd).1
      simpa using this
    · simp only [PyData.depth]
      have := depthAll_map (f := id) (n := n) ds fun d hd => (ih d hd).2.1
      simpa using this
    · simp only [nbD]
      have := nbAll_map (f := id) ds fun d hd => (ih d hd).2.2
      simpa using this
  | 0, .bool _, h => by simp [okN] at h
  | _ + 1, .bool _, h => by simp [okN] at h
  | 0, .list _, h => by simp [okN] at h
  | _ + 1, .list _, h => by simp [okN] at h
  | 0, .dict _, h => by simp [okN] at h
  | _ + 1, .dict _, h => by simp [okN] at h
end
end DL

set_option Elab.async false
set_option linter.all false
set_option maxRecDepth 100000
set_option maxHeartbeats 4000000
namespace DL
open PySem PySem.Spec PyProof.Rows L2
/-! ### a tuple once, a tuple no time -/
theorem tmul_one (l : Addr) (items : Array Value) (n : Nat) (dd : Option Addr) (sl : Array (Option Value)) (u : Tok) :
    Meets (Builtin.«tuple.__mul__» ⟨[.ref l, .int 1 u], []⟩) (fun _ R s => s.heap.get? l = some { cls := .type "tuple", dict := dd, data := .seq items n, slots := sl } ∧ R (.ok (.ret (Value.ref l))) s) :=
  .of_wp fun prog w A R s h => by
    obtain ⟨hp, g, d, tk, os⟩ := s
    obtain ⟨hl, h⟩ := h
    have f1 := AutoSeq1.idx_int
    wp_walk using wpAny_loadPart' hl
    exact ⟨_, rfl, h⟩
theorem tmul_zero (l : Addr) (items : Array Value) (n : Nat) (dd : Option Addr) (sl : Array (Option Value)) (u : Tok) (hi : items.isEmpty = false) :
    Meets (Builtin.«tuple.__mul__» ⟨[.ref l, .int 0 u], []⟩) (fun _ R s => s.heap.get? l = some { cls := .type "tuple", dict := dd, data := .seq items n, slots := sl } ∧
      R (.ok (.ret (Value.ref s.heap.objs.size))) { s with heap := s.heap.push { cls := Value.type "tuple", data := Data.seq #[] }, toks := s.toks }) :=
  .of_wp fun prog w A R s h => by
    obtain ⟨hp, g, d, tk, os⟩ := s
    obtain ⟨hl, h⟩ := h
    have f1 := AutoSeq1.idx_int
    wp_walk using wpAny_loadPart' hl
    exact ⟨_, rfl, h⟩
section
variable {X : Cx} {O : Own} {P : W → Own → Prop}
theorem op_tmul (one : Bool) : OpR X (binaryOp .Mult) (fun x y H Q => ∃ l xs, x = .ref l ∧ y = .int (if one then 1 else 0) ∧ SqT X.K H l xs ∧ xs ≠ [] ∧ (if one then Q (.ref l) H else ∀ p, H p = none → Q (.ref p) (upd H p (.tup [])))) := by
  intro pins s σ H x y v u Q I rx ry ⟨l, xs, ex, ey, hT, hne, q⟩
  subst ex ey
  cases rx
  obtain ⟨t, rfl⟩ := ry
  obtain ⟨its, r, ⟨⟨cls, dd, data, sl⟩, ho, hc, n, hd⟩, hs⟩ := I.tuple hT
  simp only at hc hd
  subst hc hd
  have hi : its.toArray.isEmpty = false := by
    cases its with
    | nil => exact absurd (List.eq_nil_of_length_eq_zero (by rw [r.length]; rfl)) hne
    | cons a b => rfl
  cases one with
  | true =>
    exact wpAny_binaryOp_repeat_ref (T := "tuple") (U := "int") (by decide) ⟨_, ho, rfl⟩ (fun s' => typeIs_int s' 1 t) noFill_tuple_mul F.fills_int_mul F.slot_int_rmul repeat_tuple F.slot_int_index.lookup
      (call_meets F.slot_int_rmul (typeIs_int s 1 t) F.entry_int_rmul (F.args_int_rmul_2 _ _) (int_rmul_tuple 1 t l its.toArray n dd sl)
        ⟨ho, rfl, ⟨_, ho, rfl⟩, call_meets F.slot_tuple_mul ⟨_, ho, rfl⟩ F.entry_tuple_mul (F.args_tuple_mul_2 _ _) (tmul_one l its.toArray n dd sl t) ⟨ho, ⟨.ref l, H, I, rfl, q⟩⟩⟩)
  | false =>
    exact wpAny_binaryOp_repeat_ref (T := "tuple") (U := "int") (by decide) ⟨_, ho, rfl⟩ (fun s' => typeIs_int s' 0 t) noFill_tuple_mul F.fills_int_mul F.slot_int_rmul repeat_tuple F.slot_int_index.lookup
      (call_meets F.slot_int_rmul (typeIs_int s 0 t) F.entry_int_rmul (F.args_int_rmul_2 _ _) (int_rmul_tuple 0 t l its.toArray n dd sl)
        ⟨ho, rfl, ⟨_, ho, rfl⟩, call_meets F.slot_tuple_mul ⟨_, ho, rfl⟩ F.entry_tuple_mul (F.args_tuple_mul_2 _ _) (tmul_zero l its.toArray n dd sl t hi) ⟨ho,
          ⟨.ref s.heap.objs.size, _, I.laid (t' := s.toks) (o := .tup []) (fun b ob q => Heap.get?_push_of_some _ q) (Nat.le_refl _) ⟨Nat.zero_le _, [], .nil, IsTup.new _ _⟩, rfl, q _ (I.hok.fresh (Nat.le_refl _))⟩⟩⟩)
theorem b_tmul1 {ds : List PyData} (hne : ds ≠ []) (h : P (.d (.tuple ds)) O) : BinD X (binaryOp .Mult) (.d (.tuple ds)) (.d (.int 1)) O P :=
  bind_of (op_tmul true) fun v1 v2 Hr H Q hS k1 k2 hQ => by
    cases k2
    cases k1 with
    | tup e1 a1 => exact ⟨_, _, rfl, rfl, same_t hS.ex e1, fun q => hne (a1.nil_iff.mp q), hQ _ _ (po_here h hS (.tup e1 a1))⟩
theorem b_tmul0 {ds : List PyData} (hne : ds ≠ []) (h : P (.d (.tuple [])) O) : BinD X (binaryOp .Mult) (.d (.tuple ds)) (.d (.int 0)) O P :=
  bind_of (op_tmul false) fun v1 v2 Hr H Q hS k1 k2 hQ => by
    cases k2
    cases k1 with
    | tup e1 a1 => exact ⟨_, _, rfl, rfl, same_t hS.ex e1, fun q => hne (a1.nil_iff.mp q), fun p hp => hQ _ _ (po_new h hS hp (.tup (SqT.of upd_same) .nil))⟩
/-! ### a text some times -/
theorem fold_size {α : Type} (b : Array α) : ∀ (n : Nat) (a : Array α), ((List.replicate n b).foldl (· ++ ·) a).size = a.size + n * b.size
  | 0, a => by simp
  | n + 1, a => by
    rw [List.replicate_succ, List.foldl_cons, fold_size b n, Array.size_append, Nat.succ_mul]
    omega
theorem fold_list {α : Type} (b : Array α) : ∀ (n : Nat) (a : Array α), ((List.replicate n b).foldl (· ++ ·) a).toList = a.toList ++ (List.replicate n b.toList).flatten
  | 0, a => by simp
  | n + 1, a => by
    rw [List.replicate_succ, List.foldl_cons, fold_list b n, Array.toList_append, List.replicate_succ, List.flatten_cons, List.append_assoc]
def repS (x : Str) (n : Nat) : Str := ⟨(List.replicate n x.cps).foldl (· ++ ·) #[]⟩
theorem op_smul : OpR X (binaryOp .Mult) (fun x y H Q => ∃ (z : Str) (k : Int), x = .str z ∧ y = .int k ∧ 2 ≤ k ∧ k ≤ 1000 ∧ 0 < z.length ∧ z.length ≤ 1000 ∧ Q (.str (repS z k.toNat)) H) := by
  intro pins s σ H x y v u Q I rx ry ⟨z, k, ex, ey, h1, h2, h3, h4, q⟩
  subst ex ey
  obtain ⟨t, rfl⟩ := rx
  obtain ⟨t2, rfl⟩ := ry
  have hm : z.length * k.toNat ≤ 1000 * 1000 := Nat.mul_le_mul h4 (by omega)
  refine P.mul_str (by rw [decide_eq_false (by omega), decide_eq_false (by omega)]; rfl) (fun _ _ => ?_) (fun _ _ => ?_) ?_
  · have : (1000 : Int) ≤ (2 ^ 63 - 1) / k := by
      refine Int.le_ediv_of_mul_le (by omega) ?_
      omega
    omega
  · unfold Builtin.Str.tooLong
    rw [sizeLine_eq]
    exact decide_eq_false (by omega)
  · rw [if_neg (by omega), if_neg (by simp; omega)]
    refine ⟨?_, ?_⟩
    · show ((List.replicate k.toNat z.cps).foldl (· ++ ·) #[]).size ≤ sizeLine
      have e : z.cps.size = z.length := rfl
      rw [fold_size, sizeLine_eq, e, Array.size_empty, Nat.mul_comm]
      omega
    · exact ⟨.str (repS z k.toNat), H, I.tok _, ⟨_, rfl⟩, q⟩
theorem repS_len {x : Str} {n : Nat} : (repS x n).length = n * x.length := by
  show ((List.replicate n x.cps).foldl (· ++ ·) #[]).size = _
  rw [fold_size]
  show 0 + n * x.length = _
  omega
theorem repS_list {x : Str} {n : Nat} : (repS x n).cps.toList = (List.replicate n x.cps.toList).flatten := by
  show ((List.replicate n x.cps).foldl (· ++ ·) #[]).toList = _
  rw [fold_list]
  rfl
theorem b_smul {z : Str} {k : Int} (h1 : 2 ≤ k) (h2 : k ≤ 1000) (h3 : 0 < z.length) (h4 : z.length ≤ 1000) (h : P (.d (.str (repS z k.toNat))) O) : BinD X (binaryOp .Mult) (.d (.str z)) (.d (.int k)) O P :=
  bind_of op_smul fun v1 v2 Hr H Q hS k1 k2 hQ => by
    cases k1
    cases k2
    exact ⟨_, _, rfl, rfl, h1, h2, h3, h4, hQ _ _ (po_here h hS (.str _))⟩
end
end DL

set_option Elab.async false
set_option linter.all false
set_option maxRecDepth 100000
set_option maxHeartbeats 2000000
namespace DL
open PySem PySem.Spec PyProof.Rows L2
section
variable {X : Cx} {τ : Tau} {O : Own} {P : W → Own → Prop} {D : DEn} {elt iter : Expr} {ifs : List Expr} {scope : Scope} {pos pos2 tp tp2 spos : Pos} {y y2 : Str} {kk : Nat}
theorem ds_setLc1O (k i : Nat) {z : Str} {zp : Pos} (hN : X.N.Nodup) (ok : BlkOk X.N X.env.scope scope [(y, i)])
    (h : IterD X (.Name y tp) iter τ O fun ds O1 => LcD X τ O1 elt ifs scope [i] (gName i) (fun p acc O2 => D.nx (τ.set k (some (.r (.ref p)))) ((p, .l acc) :: O2)) ds)
    (hg : ∀ (s : Shared) (H : Hp) (C : Addr) (cl : List (Str × Addr)) (fp : List Addr), PG (blk X scope s H C cl fp) (.Name y tp) (gName i) := by exact fun _ _ _ _ _ => pg_name (by assumption) rfl (by first | exact Or.inl rfl | exact Or.inr rfl))
    (hsw : swapsWith (.ListComp elt [⟨.Name y tp, iter, ifs, 0⟩] scope pos) (some (.Name z zp)) spos.line X.env = pure true := by exact sw_true rfl rfl rfl (by decide +kernel))
    (hc : X.calm = true := by rfl) (hs : ∀ x, foldedSetIterable iter X.env x = pure x := by intro _; rfl) (hy : X.N[k]? = some z := by rfl) (hyl : X.env.scope.names.lookup z = some .local := by rfl) :
    DS X τ O (.Assign [.Name z zp] (.ListComp elt [⟨.Name y tp, iter, ifs, 0⟩] scope pos) spos) D := ds_setLcO k [(y, i)] (gName i) hN ok hg h hsw hc hs hy hyl
end
end DL

set_option Elab.async false
set_option linter.all false
set_option maxRecDepth 100000
set_option maxHeartbeats 2000000
namespace DL
open PySem PySem.Spec PyProof.Rows L2
/-! ### dicts of data -/
section
variable {κ : Type} [DecidableEq κ]
def valD (kvs : List (κ × PyData)) (k : κ) : Option PyData := (kvs.find? fun kv => decide (kv.1 = k)).map (·.2)
def putD (kvs : List (κ × PyData)) (k : κ) (d : PyData) : List (κ × PyData) :=
  if (kvs.any fun kv => decide (kv.1 = k)) = true then kvs.map (fun kv => if kv.1 = k then (kv.1, d) else kv) else kvs ++ [(k, d)]
theorem valD_nil {k : κ} : valD ([] : List (κ × PyData)) k = none := rfl
theorem valD_pos {p : κ × PyData} {r : List (κ × PyData)} {k : κ} (e : p.1 = k) : valD (p :: r) k = some p.2 := by simp [valD, List.find?_cons, e]
theorem valD_neg {p : κ × PyData} {r : List (κ × PyData)} {k : κ} (e : ¬ p.1 = k) : valD (p :: r) k = valD r k := by simp [valD, List.find?_cons, e]
theorem valD_any (k : κ) : ∀ kvs : List (κ × PyData), (kvs.any fun kv => decide (kv.1 = k)) = (valD kvs k).isSome
  | [] => rfl
  | p :: r => by
    by_cases e : p.1 = k
    · simp [valD_pos e, e]
    · simp [valD_neg e, e, valD_any k r]
theorem valD_map (k j : κ) (y : PyData) : ∀ kvs : List (κ × PyData), valD (kvs.map fun kv => if kv.1 = k then (kv.1, y) else kv) j = (valD kvs j).map fun x => if j = k then y else x
  | [] => rfl
  | p :: r => by
    rw [List.map_cons]
    by_cases e : p.1 = k
    · rw [if_pos e]
      by_cases e2 : p.1 = j
      · rw [valD_pos (p := (p.1, y)) e2, valD_pos e2]
        have : j = k := e2.symm.trans e
        simp [this]
      · rw [valD_neg (p := (p.1, y)) e2, valD_neg e2, valD_map k j y r]
    · rw [if_neg e]
      by_cases e2 : p.1 = j
      · rw [valD_pos e2, valD_pos e2]
        have : ¬ j = k := fun q => e (e2.trans q)
        simp [this]
      · rw [valD_neg e2, valD_neg e2, valD_map k j y r]
theorem valD_snoc (k j : κ) (y : PyData) : ∀ kvs : List (κ × PyData), valD kvs k = none → valD (kvs ++ [(k, y)]) j = if j = k then some y else valD kvs j
  | [], _ => by
    by_cases e : j = k
    · rw [if_pos e, List.nil_append, valD_pos e.symm]
    · rw [if_neg e, List.nil_append, valD_neg (fun q => e q.symm)]
  | p :: r, h => by
    have e0 : ¬ p.1 = k := fun q => by rw [valD_pos q] at h; cases h
    rw [valD_neg e0] at h
    rw [List.cons_append]
    by_cases e2 : p.1 = j
    · rw [valD_pos e2, valD_pos e2, if_neg (fun q => e0 (e2.trans q))]
    · rw [valD_neg e2, valD_neg e2, valD_snoc k j y r h]
theorem valD_put (kvs : List (κ × PyData)) (k j : κ) (y : PyData) : valD (putD kvs k y) j = if j = k then some y else valD kvs j := by
  unfold putD
  rw [valD_any]
  by_cases h : (valD kvs k).isSome = true
  · rw [if_pos h, valD_map]
    by_cases e : j = k
    · subst e
      obtain ⟨z, hz⟩ := Option.isSome_iff_exists.mp h
      rw [hz]
      simp
    · simp [e]
  · rw [if_neg h, valD_snoc _ _ _ _ (by simpa using h)]
theorem length_putD (kvs : List (κ × PyData)) (k : κ) (d : PyData) : (putD kvs k d).length ≤ kvs.length + 1 := by
  unfold putD
  split <;> simp
variable {K : PySem.W.Frag} {Hr : Hp}
theorem KD.val (k : κ) : ∀ {vs : List (κ × V)} {kvs : List (κ × PyData)}, KD K Hr vs kvs → (valV vs k = none ∧ valD kvs k = none) ∨ ∃ v d, valV vs k = some v ∧ valD kvs k = some d ∧ Dv K Hr v d
  | _, _, .nil => .inl ⟨rfl, rfl⟩
  | a :: _, b :: _, .cons q t => by
    by_cases e : b.1 = k
    · exact .inr ⟨a.2, b.2, valV_pos (q.1.trans e), valD_pos e, q.2⟩
    · rw [valV_neg (fun z => e (q.1.symm.trans z)), valD_neg e]
      exact KD.val k t
theorem KD.any (k : κ) {vs : List (κ × V)} {kvs : List (κ × PyData)} (h : KD K Hr vs kvs) : (vs.any fun kv => decide (kv.1 = k)) = (kvs.any fun kv => decide (kv.1 = k)) := by
  rw [valV_any, valD_any]
  rcases h.val k with ⟨a, b⟩ | ⟨v, d, a, b, _⟩ <;> rw [a, b] <;> rfl
theorem KD.len {vs : List (κ × V)} {kvs : List (κ × PyData)} (h : KD K Hr vs kvs) : vs.length = kvs.length := Paired.length h
theorem KD.snoc : ∀ {vs : List (κ × V)} {kvs : List (κ × PyData)} {k : κ} {v : V} {d : PyData}, KD K Hr vs kvs → Dv K Hr v d → KD K Hr (vs ++ [(k, v)]) (kvs ++ [(k, d)])
  | _, _, _, _, _, .nil, g => .cons ⟨rfl, g⟩ .nil
  | _, _, _, _, _, .cons q t, g => .cons q (KD.snoc t g)
theorem KD.maps {k : κ} {v : V} {d : PyData} (g : Dv K Hr v d) : ∀ {vs : List (κ × V)} {kvs : List (κ × PyData)}, KD K Hr vs kvs → KD K Hr (vs.map fun kv => if kv.1 = k then (kv.1, v) else kv) (kvs.map fun kv => if kv.1 = k then (kv.1, d) else kv)
  | _, _, .nil => .nil
  | a :: _, b :: _, .cons q t => by
    rw [List.map_cons, List.map_cons]
    refine .cons ?_ (KD.maps g t)
    by_cases e : b.1 = k
    · rw [if_pos e, if_pos (q.1.trans e)]
      exact ⟨q.1, g⟩
    · rw [if_neg e, if_neg (fun z => e (q.1.symm.trans z))]
      exact q
theorem KD.put {vs : List (κ × V)} {kvs : List (κ × PyData)} {k : κ} {v : V} {d : PyData} (h : KD K Hr vs kvs) (g : Dv K Hr v d) : KD K Hr (putK vs k v) (putD kvs k d) := by
  unfold putK putD
  rw [h.any k]
  split
  · exact KD.maps g h
  · exact h.snoc g
end
def keyD : Key → PyData
  | .inl i => .int i
  | .inr x => .str x
theorem keyD_v {K : PySem.W.Frag} {Hr : Hp} {v : V} {k : Key} (h : Dv K Hr v (keyD k)) : v = kV k := by
  cases k <;> (cases h; rfl)
section
variable {X : Cx} {τ : Tau} {O : Own} {P : W → Own → Prop} {D : DEn} {a b c e : Expr} {pos : Pos} {w w1 w2 : W}
/-- a dict, owned, keys ints and texts -/
def DkAt (O : Own) (w : W) (kvs : List (Key × PyData)) : Prop := ∃ (p : Addr) (j : Nat), w = .r (.ref p) ∧ O[j]? = some (p, Cell.k kvs)
theorem dkat {p : Addr} (j : Nat) {kvs : List (Key × PyData)} (h : O[j]? = some (p, .k kvs)) : DkAt O (.r (.ref p)) kvs := ⟨p, j, rfl, h⟩
theorem DkAt.at {K : PySem.W.Frag} {Hr H : Hp} {v : V} {kvs : List (Key × PyData)} (r : DkAt O w kvs) (S : Sep K Hr O H) (k : WOk K Hr v w) : ∃ p vs, v = .ref p ∧ H p = some (.dK vs) ∧ KD K Hr vs kvs := by
  obtain ⟨p, j, rfl, hj⟩ := r
  cases k
  obtain ⟨vs, h1, h2⟩ := S.cell hj
  exact ⟨_, _, rfl, h1, h2⟩
theorem b_inK {k : Key} {kvs : List (Key × PyData)} (hu : X.A.units + 1 < cLine) (r : DkAt O w kvs) (h : P (.d (.bool (valD kvs k).isSome)) O) : BinD X (compareOp .In) (.d (keyD k)) w O P :=
  bind_of (r := fun y x H Q => ∃ a o, x = .ref a ∧ DGet H a y o ∧ Q (.bl o.isSome) H) (fun pins s σ H y x u v Q I ry rx ⟨a, o, ex, g, q⟩ => by
    subst ex
    obtain rfl : v = Value.ref a := rx
    exact d_in hu I g ry fun s3 I3 => ⟨.bl o.isSome, H, I3, rfl, q⟩) fun v1 v2 Hr H Q hS h1 h2 hQ => by
    obtain ⟨p, vs, rfl, e1, kd⟩ := r.at hS h2
    obtain rfl := keyD_v h1
    refine ⟨p, _, rfl, DGet.k e1, hQ _ _ (po_here h hS ?_)⟩
    rcases kd.val k with ⟨x, y⟩ | ⟨v, d, x, y, _⟩ <;> rw [x, y] <;> exact .bl _
theorem b_niK {k : Key} {kvs : List (Key × PyData)} (hu : X.A.units + 1 < cLine) (r : DkAt O w kvs) (h : P (.d (.bool (!(valD kvs k).isSome))) O) : BinD X (compareOp .NotIn) (.d (keyD k)) w O P :=
  bind_of (r := fun y x H Q => ∃ a o, x = .ref a ∧ DGet H a y o ∧ Q (.bl (!o.isSome)) H) (fun pins s σ H y x u v Q I ry rx ⟨a, o, ex, g, q⟩ => by
    subst ex
    obtain rfl : v = Value.ref a := rx
    exact d_notIn hu I g ry fun s3 I3 => ⟨.bl (!o.isSome), H, I3, rfl, q⟩) fun v1 v2 Hr H Q hS h1 h2 hQ => by
    obtain ⟨p, vs, rfl, e1, kd⟩ := r.at hS h2
    obtain rfl := keyD_v h1
    refine ⟨p, _, rfl, DGet.k e1, hQ _ _ (po_here h hS ?_)⟩
    rcases kd.val k with ⟨x, y⟩ | ⟨v, d, x, y, _⟩ <;> rw [x, y] <;> exact .bl _
/-- d[k], the key there -/
theorem de_dget (hu : X.A.units + 1 < cLine) (h : DE X τ O a fun w1 O1 => DE X τ O1 b fun w2 O2 => ∃ (kvs : List (Key × PyData)) (k : Key) (d : PyData), DkAt O2 w1 kvs ∧ w2 = .d (keyD k) ∧ valD kvs k = some d ∧ P (.d d) O2) (hs : NoSl b := by exact fun _ _ => rfl) : DE X τ O (.Subscript a b pos) P := by
  refine ⟨?_⟩
  intro σ Hr H Q hE hS hQ pins s I
  refine (pe_dget hu pe_te pe_te hs).run pins s σ H Q I ?_
  refine h σ Hr H _ hE hS fun x H1 ⟨w1, O1, Hr1, h1, e1, s1, k1⟩ => ?_
  refine h1 σ Hr1 H1 _ (hE.mono e1) s1 fun y H2 ⟨w2, O2, Hr2, ⟨kvs, k, d, r, hw, hv, hp⟩, e2, s2, k2⟩ => ?_
  obtain ⟨p, vs, rfl, q1, kd⟩ := r.at s2 (k1.mono e2)
  subst hw
  obtain rfl := keyD_v k2
  rcases kd.val k with ⟨_, z⟩ | ⟨v, d', z1, z2, z3⟩
  · rw [hv] at z; cases z
  · rw [hv] at z2
    cases z2
    exact ⟨p, v, rfl, by rw [← z1]; exact DGet.k q1, hQ _ _ ⟨.d d, O2, Hr2, hp, e1.trans e2, s2, z3⟩⟩
/-! ### dict comprehensions -/
theorem dc_it {J : It} {n : Nat} {G : Hp → Prop} {Y : Nat → Hp → V → Hp → Prop} (w : Walk J n G Y) {g : TG} {tt : TT} {tk tv : TE} {vs : List Nat} {σ : L2.St} {H1 : Hp} {D : Addr} {Qd : Hp → Prop} (Pv : Nat → Hp → Prop) (h0 : Pv 0 (upd H1 D (.dK []))) (hG : ∀ i H, i ≤ n → Pv i H → G H)
    (hs : ∀ i x H H', i < n → Pv i H → Y i H x H' → g x (wipe σ vs) H' fun σ2 H2 => wipe σ2 vs = wipe σ vs ∧ tt σ2 H2 fun b H3 =>
      if b = true then tk σ2 H3 fun y H4 => tv σ2 H4 fun z H5 => ∃ kvs k, y = kV k ∧ H5 D = some (.dK kvs) ∧ kvs.length < sizeLine ∧ Pv (i + 1) (upd H5 D (.dK (putK kvs k z))) else Pv (i + 1) H3) (hd : ∀ H, Pv n H → Qd H) :
    ∃ W : Nat → Nat → Hp → Prop, (∃ m, W 0 m (upd H1 D (.dK []))) ∧ ∀ i m H, W i m H →
      (J.stop i H ∧ Qd H) ∨ (J.go i H ∧ ∃ Nx : Hp → Prop, (∀ H', Nx H' → ∃ m', m' < m ∧ W (i + 1) m' H') ∧ ∀ x H', J.yld i H x H' → g x (wipe σ vs) H' fun σ2 H2 => wipe σ2 vs = wipe σ vs ∧ tt σ2 H2 fun b H3 =>
        if b = true then tk σ2 H3 fun y H4 => tv σ2 H4 fun z H5 => ∃ kvs k, y = kV k ∧ H5 D = some (.dK kvs) ∧ kvs.length < sizeLine ∧ Nx (upd H5 D (.dK (putK kvs k z))) else Nx H3) := by
  refine ⟨fun i m H => m = n - i ∧ i ≤ n ∧ Pv i H, ⟨n, by simp, Nat.zero_le _, h0⟩, ?_⟩
  rintro i m H ⟨rfl, hi, p⟩
  have q := hG i H hi p
  by_cases hlt : i < n
  · refine .inr ⟨w.goes i H hlt q, Pv (i + 1), fun H' p' => ⟨n - (i + 1), by omega, rfl, hlt, p'⟩, fun x H' y => hs i x H H' hlt p (w.yields i H x H' hlt q y)⟩
  · have e : i = n := by omega
    subst e
    exact .inl ⟨w.stops H q, hd H p⟩
variable {kx vx t iter : Expr} {ifs : List Expr} {scope : Scope} {own : List (Str × Nat)} {spos : Pos} {g : TG}
/-- what a dict comprehension makes -/
def dcF (kf : PyData → Key) (vf : PyData → PyData) (kp : PyData → Bool) (ds : List PyData) : List (Key × PyData) := ds.foldl (fun acc d => if kp d = true then putD acc (kf d) (vf d) else acc) []
def DcD (X : Cx) (τ : Tau) (O : Own) (kx vx : Expr) (ifs : List Expr) (scope : Scope) (vs : List Nat) (g : TG) (P : Addr → List (Key × PyData) → Own → Prop) (ds : List PyData) : Prop :=
  ∃ (kf : PyData → Key) (vf : PyData → PyData) (kp : PyData → Bool), ds.length < sizeLine ∧
    (∀ (i : Nat) (d : PyData), ds[i]? = some d → ∃ τ2, TgOk X.K g vs d (wipeT τ vs) τ2 ∧ ∀ (p : Addr) (acc : List (Key × PyData)) (s : Shared) (H : Hp) (C : Addr) (cl : List (Str × Addr)) (fp : List Addr),
      DTs (blk X scope s H C cl fp) τ2 ((p, .k acc) :: O) ifs (fun b O3 => b = kp d ∧ O3 = (p, .k acc) :: O) ∧
      (kp d = true → DE (blk X scope s H C cl fp) τ2 ((p, .k acc) :: O) kx (fun w O4 => w = .d (keyD (kf d)) ∧ O4 = (p, .k acc) :: O) ∧
        DE (blk X scope s H C cl fp) τ2 ((p, .k acc) :: O) vx (fun w O4 => w = .d (vf d) ∧ O4 = (p, .k acc) :: O))) ∧
    ∀ p, P p (dcF kf vf kp ds) O
theorem fold_len (kf : PyData → Key) (vf : PyData → PyData) (kp : PyData → Bool) : ∀ (ds : List PyData) (acc : List (Key × PyData)), (ds.foldl (fun acc d => if kp d = true then putD acc (kf d) (vf d) else acc) acc).length ≤ acc.length + ds.length
  | [], acc => Nat.le_refl _
  | d :: ds, acc => by
    rw [List.foldl_cons]
    refine Nat.le_trans (fold_len kf vf kp ds _) ?_
    have := length_putD acc (kf d) (vf d)
    simp only [List.length_cons]
    split <;> omega
theorem de_dcO (own : List (Str × Nat)) (g : TG) (hN : X.N.Nodup) (ok : BlkOk X.N X.env.scope scope own) (hg : ∀ (s : Shared) (H : Hp) (C : Addr) (cl : List (Str × Addr)) (fp : List Addr), PG (blk X scope s H C cl fp) t g)
    (h : IterD X t iter τ O fun ds O1 => DcD X τ O1 kx vx ifs scope (own.map (·.2)) g (fun p acc O2 => P (.r (.ref p)) ((p, .k acc) :: O2)) ds) (hc : X.calm = true := by rfl) (hs : ∀ x, foldedSetIterable iter X.env x = pure x := by intro _; rfl) :
    DE X τ O (.DictComp kx vx [⟨t, iter, ifs, 0⟩] scope pos) P := by
  refine ⟨?_⟩
  intro σ Hr H Q hE hS hQ pins s I
  refine (pe_dc (own := own) (tt := tIfs X scope ifs) (tk := tElt X scope kx) (tv := tElt X scope vx) hc hN pi_ti ok hg (fun s H C cl fp => ⟨fun pins s1 σ H1 Q I h => h s H C cl fp pins s1 I⟩) (fun s H C cl fp => ⟨fun pins s1 σ H1 Q I h => h s H C cl fp pins s1 I⟩) (fun s H C cl fp => ⟨fun pins s1 σ H1 Q I h => h s H C cl fp pins s1 I⟩) hs).run pins s σ H Q I ?_
  refine h σ Hr H _ hE hS fun J H1 ds O1 Hr1 ⟨kf, vf, kp, hz, hstep, hend⟩ e1 s1 ok => ?_
  intro Dl hD
  refine dc_it (g := g) (vs := own.map (·.2)) (σ := σ) (tt := tIfs X scope ifs) (tk := tElt X scope kx) (tv := tElt X scope vx) (Qd := fun H' => Q (.ref Dl) H') ok (fun i H' => ∃ (Hr' : Hp), Same Hr1 Hr' ∧ Sep X.K Hr' ((Dl, .k ((ds.take i).foldl (fun acc d => if kp d = true then putD acc (kf d) (vf d) else acc) [])) :: O1) H') ⟨Hr1, Same.refl _, s1.newOwn (c := .k []) hD ⟨[], upd_same, .nil⟩⟩ (fun i H' _ ⟨Hr', e, s'⟩ => fun a o q => s'.ex a o (e a o q)) ?_ ?_
  · intro i x H2 H3 hi ⟨Hr', e, s'⟩ y
    obtain ⟨d, Hr2, hd, e2, s2, kd⟩ := y.sep e s'
    obtain ⟨τ2, htg, hb⟩ := hstep i d hd
    have e3 : Same Hr Hr2 := (e1.trans e).trans e2
    refine htg x (wipe σ (own.map (·.2))) Hr2 H3 _ ((hE.mono e3).wiped (own.map (·.2))) s2.ex kd ?_
    intro σ' hE' hw
    refine ⟨hw σ rfl, ?_⟩
    have eN : (ds.take (i + 1)).foldl (fun acc d => if kp d = true then putD acc (kf d) (vf d) else acc) [] = if kp d = true then putD ((ds.take i).foldl (fun acc d => if kp d = true then putD acc (kf d) (vf d) else acc) []) (kf d) (vf d) else (ds.take i).foldl (fun acc d => if kp d = true then putD acc (kf d) (vf d) else acc) [] := by
      rw [List.take_succ, hd, List.foldl_append]
      rfl
    have hl := fold_len kf vf kp (ds.take i) []
    rw [eN]
    generalize (ds.take i).foldl (fun acc d => if kp d = true then putD acc (kf d) (vf d) else acc) [] = acc at s2 hl ⊢
    intro s0 H0 C cl fp
    refine (hb Dl acc s0 H0 C cl fp).1 σ' Hr2 H3 _ hE' s2 fun k H4 ⟨O4, Hr4, ⟨hk, p4⟩, e4, s4⟩ => ?_
    subst p4
    cases k with
    | true =>
      rw [if_pos rfl]
      rw [if_pos hk.symm]
      intro s0 H0 C cl fp
      obtain ⟨m1, m2⟩ := (hb Dl acc s0 H0 C cl fp).2 hk.symm
      refine m1 σ' Hr4 H4 _ (hE'.mono e4) s4 fun y H5 ⟨w, O5, Hr5, ⟨hw, ho⟩, e5, s5, k5⟩ => ?_
      subst hw ho
      intro s0 H0 C cl fp
      obtain ⟨m1, m2⟩ := (hb Dl acc s0 H0 C cl fp).2 hk.symm
      refine m2 σ' Hr5 H5 _ (hE'.mono (e4.trans e5)) s5 fun z H6 ⟨w, O6, Hr6, ⟨hw, ho⟩, e6, s6, k6⟩ => ?_
      subst hw ho
      obtain ⟨us, u1, u2⟩ := s6.cell (j := 0) rfl
      have hlen : us.length < sizeLine := by
        rw [u2.len]
        refine Nat.lt_of_le_of_lt hl (Nat.lt_of_le_of_lt ?_ hz)
        simp [List.length_take]
        omega
      exact ⟨us, kf d, keyD_v k5, u1, hlen, Hr6, (((e.trans e2).trans e4).trans e5).trans e6, s6.put (j := 0) rfl ⟨_, upd_same, u2.put k6⟩⟩
    | false =>
      rw [if_neg Bool.false_ne_true, if_neg (by rw [← hk]; exact Bool.false_ne_true)]
      exact ⟨Hr4, (e.trans e2).trans e4, s4⟩
  · intro H' ⟨Hr', e, s'⟩
    rw [List.take_length] at s'
    exact hQ _ _ ⟨_, _, Hr', hend Dl, e1.trans e, s', rfl⟩
theorem de_dc1 {y : Str} {tp : Pos} (i : Nat) (hN : X.N.Nodup) (ok : BlkOk X.N X.env.scope scope [(y, i)])
    (h : IterD X (.Name y tp) iter τ O fun ds O1 => DcD X τ O1 kx vx ifs scope [i] (gName i) (fun p acc O2 => P (.r (.ref p)) ((p, .k acc) :: O2)) ds)
    (hg : ∀ (s : Shared) (H : Hp) (C : Addr) (cl : List (Str × Addr)) (fp : List Addr), PG (blk X scope s H C cl fp) (.Name y tp) (gName i) := by exact fun _ _ _ _ _ => pg_name (by assumption) rfl (by first | exact Or.inl rfl | exact Or.inr rfl)) (hc : X.calm = true := by rfl) (hs : ∀ x, foldedSetIterable iter X.env x = pure x := by intro _; rfl) :
    DE X τ O (.DictComp kx vx [⟨.Name y tp, iter, ifs, 0⟩] scope pos) P := de_dcO [(y, i)] (gName i) hN ok hg h hc hs
end
/-! ### texts by their codes -/
open SX
abbrev sd (l : List Nat) : PyData := .str (S l)
section
variable {X : Cx} {O : Own} {P : W → Own → Prop} {w : W}
theorem m_find3 {x y : Str} {i : Int} (h : P (.d (.int (Txt.find3 x y i))) O) : MetD X "str" "str.find" (.d (.str x)) [.d (.str y), .d (.int i)] O P :=
  metd_of mt_find3 fun v vs Hr H Q hS k0 k1 hQ => by
    cases k0
    cases k1 with
    | cons k1 k2 =>
      cases k2 with
      | cons k2 k3 =>
        cases k3
        cases k1
        cases k2
        exact ⟨x, y, i, rfl, rfl, hQ _ _ (po_here h hS (.int _))⟩
theorem m_removeprefix {x y : Str} (hl : x.length ≤ sizeLine) (h : P (.d (.str (Txt.removeprefix x y))) O) : MetD X "str" "str.removeprefix" (.d (.str x)) [.d (.str y)] O P :=
  metd_of mt_removeprefix fun v vs Hr H Q hS k0 k1 hQ => by
    cases k0
    cases k1 with
    | cons k1 k2 =>
      cases k2
      cases k1
      exact ⟨x, y, rfl, rfl, hl, hQ _ _ (po_here h hS (.str _))⟩
end
theorem lit_S (x : Str) : x = S x.cps.toList := (S_tl x).symm
theorem slice_both {a : List Nat} {i j : Int} (h : 0 ≤ i) (h2 : 0 ≤ j) : Txt.slice (S a) (some i) (some j) = S ((a.take j.toNat).drop i.toNat) := by
  have hl : (S a).length = a.length := S_len a
  have e1 : ∀ i' j' : Int, min i' (a.length : Int) = min i (a.length : Int) → min j' (a.length : Int) = min j (a.length : Int) → 0 ≤ i' → 0 ≤ j' → Txt.slice (S a) (some i) (some j) = Txt.slice (S a) (some i') (some j') := by
    intro i' j' q1 q2 q3 q4
    have h0 : ¬ i < 0 := by omega
    have h1 : ¬ j < 0 := by omega
    have h3 : ¬ i' < 0 := by omega
    have h4 : ¬ j' < 0 := by omega
    have h5 : (1 : Int) > 0 := by decide
    unfold Txt.slice
    simp only [Builtin.Str.strSliceIndices, hl, h0, h1, h3, h4, h5, if_false, if_true, q1, q2]
  by_cases hij : min i (a.length : Int) ≤ min j (a.length : Int)
  · rw [e1 (min i (a.length : Int)) (min j (a.length : Int)) (by omega) (by omega) (by omega) (by omega)]
    have e := beq_iff_eq.mp (slice_closesL (x := S a) (i := min i (a.length : Int)) (j := min j (a.length : Int)) (by omega) hij (by rw [hl]; omega))
    refine e.trans ?_
    show S ((a.drop (min i (a.length : Int)).toNat).take (min j (a.length : Int) - min i (a.length : Int)).toNat) = _
    congr 1
    rw [List.drop_take]
    by_cases hi : i ≤ (a.length : Int)
    · rw [Int.min_eq_left hi]
      by_cases hj : j ≤ (a.length : Int)
      · rw [Int.min_eq_left hj, show (j - i).toNat = j.toNat - i.toNat by omega]
      · rw [Int.min_eq_right (by omega), List.take_of_length_le (by rw [List.length_drop]; omega), List.take_of_length_le (by rw [List.length_drop]; omega)]
    · rw [Int.min_eq_right (by omega), List.drop_of_length_le (by omega), List.drop_of_length_le (by omega), List.take_nil, List.take_nil]
  · have h0 : ¬ i < 0 := by omega
    have h1 : ¬ j < 0 := by omega
    have h5 : (1 : Int) > 0 := by decide
    have e : Builtin.Str.strSliceIndices (some i) (some j) 1 (S a).length = [] := by
      simp only [Builtin.Str.strSliceIndices, hl, h0, h1, h5, if_false, if_true, PySem.sliceRange, Int.ediv_one]
      rw [List.map_eq_nil_iff, List.range_eq_nil]
      split
      · omega
      · rfl
    have hne : ((([] : List Nat).length == (S a).length) : Bool) = false := by
      rw [hl]
      refine decide_eq_false ?_
      simp only [List.length_nil]
      omega
    unfold Txt.slice
    rw [e, hne, Bool.and_false, if_neg Bool.false_ne_true]
    show S [] = _
    rw [List.drop_of_length_le (by rw [List.length_take]; omega)]
end DL

set_option Elab.async false
set_option linter.all false
set_option maxRecDepth 100000
set_option maxHeartbeats 2000000
namespace DL
open PySem PySem.Spec PyProof.Rows L2
section
variable {X : Cx} {τ : Tau} {O : Own} {D : DEn} {t iter : Expr} {body : List Stmt} {pos : Pos}
/-- a loop over a list that is owned, and that a turn leaves as it is -/
theorem ds_forO (h : DE X τ O iter fun w O1 => ∃ (p : Addr) (ds : List PyData), w = .r (.ref p) ∧ ∃ Iv : Nat → Tau → Own → Prop, Iv 0 τ O1 ∧ (∀ i τ' O', Iv i τ' O' → ∃ j : Nat, O'[j]? = some (p, Cell.l ds)) ∧
      (∀ (i : Nat) (d : PyData) (τ' : Tau) (O' : Own), ds[i]? = some d → Iv i τ' O' → DTg X τ' O' t (.d d) fun τ2 O2 => DSs X τ2 O2 body { nx := Iv (i + 1), ct := Iv (i + 1), bk := D.nx, rt := D.rt }) ∧ (∀ τ' O', Iv ds.length τ' O' → D.nx τ' O'))
    (hp : PassesOwn (model X.prog X.w) X.A X.env X.xe := by exact PassesOwn.never) (hc : X.calm = true := by rfl) (hs : ∀ x, foldedSetIterable iter X.env x = pure x := by intro _; rfl) : DS X τ O (.For t iter body [] pos) D := by
  refine ⟨?_⟩
  intro σ Hr H E hE hS hD pins s I
  refine (ps_for hp hc (pi_list pe_te) pg_tg pss_tss hs).run pins s σ H E I ?_
  refine h σ Hr H _ hE hS fun v H1 ⟨w, O1, Hr1, ⟨p, ds, hw, Iv, h0, hcell, hstep, hend⟩, e1, s1, k1⟩ => ?_
  subst hw
  have k1' : v = .ref p := k1
  subst k1'
  obtain ⟨j, hj⟩ := hcell 0 τ O1 h0
  obtain ⟨us, u1, u2⟩ := s1.cell hj
  refine ⟨p, rfl, ⟨us, SqL.of u1⟩, ?_⟩
  refine for_it (J := Itl X.K p) (n := ds.length) (G := fun H => ∃ xs, SqL X.K H p xs ∧ xs.length = ds.length) (Y := fun i H v H' => H' = H ∧ ∀ xs, SqL X.K H p xs → xs[i]? = some v)
    ⟨fun i H hi ⟨xs, q, hl⟩ => ⟨xs, xs[i], q, by simp [hl, hi]⟩, fun H ⟨xs, q, hl⟩ => ⟨xs, q, by omega⟩, fun _ _ _ _ _ q y => ⟨y.1, y.2⟩⟩
    (fun i σ' H' => NO X.K Hr1 (Iv i) σ' H') ⟨τ, O1, Hr1, h0, Same.refl _, s1, hE.mono e1⟩ ?_ ?_ ?_
  · intro i σ' H' _ ⟨τ', O', Hr', p', e, s', _⟩
    obtain ⟨j, hj⟩ := hcell i τ' O' p'
    obtain ⟨us, u1, u2⟩ := s'.cell hj
    exact ⟨us, SqL.of u1, u2.len⟩
  · intro i x σ' H' H2 hi ⟨τ', O', Hr', p', e, s', k⟩ ⟨y1, y2⟩
    subst y1
    obtain ⟨j, hj⟩ := hcell i τ' O' p'
    obtain ⟨us, u1, u2⟩ := s'.cell hj
    obtain ⟨d, hd, kd⟩ := u2.getV (y2 us (SqL.of u1))
    refine hstep i d τ' O' hd p' x σ' Hr' _ _ k s' kd fun σ3 H3 ⟨τ3, O3, Hr3, p3, e3, s3, k3⟩ => ?_
    refine p3 σ3 Hr3 H3 _ k3 s3 ⟨fun σ4 H4 q => no_to (e.trans e3) q, fun v H4 q => hD.rt v H4 (po_to ((e1.trans e).trans e3) q), fun σ4 H4 q => hD.nx σ4 H4 (no_to ((e1.trans e).trans e3) q), fun σ4 H4 q => no_to (e.trans e3) q⟩
  · intro σ' H' ⟨τ', O', Hr', p', e, s', k⟩
    exact hD.nx _ _ ⟨τ', O', Hr', hend τ' O' p', e1.trans e, s', k⟩
end
end DL

set_option Elab.async false
set_option linter.all false
set_option maxRecDepth 100000
set_option maxHeartbeats 2000000
namespace PK
open PySem PySem.Spec PyProof.Rows L2 DL SX
/-! ### find, by codes -/
section
open PySem.Builtin PySem.Builtin.Str PySem.StrLaws
theorem occ_full (s sub : Str) (hi : Nat) : ∀ (l : List Nat) (st : Array Nat × Nat), st.fst.size = 1 → (forIn l st (occBody s sub hi 1)).run.fst = st.fst
  | [], st, h => rfl
  | a :: l, st, h => by
    rw [List.forIn_cons]
    unfold occBody
    rw [if_neg (by rw [h]; simp)]
    exact occ_full s sub hi l (st.fst, st.snd) h
theorem occ_first (s sub : Str) (hi : Nat) : ∀ (l : List Nat) (free : Nat), (∀ i ∈ l, free ≤ i) →
    (forIn l ((#[] : Array Nat), free) (occBody s sub hi 1)).run.fst.toList = (l.find? fun i => decide (i + sub.length ≤ hi ∧ subAt s sub i = true)).toList
  | [], free, _ => rfl
  | a :: l, free, hf => by
    rw [List.forIn_cons]
    unfold occBody
    have ha : free ≤ a := hf a (List.mem_cons_self ..)
    by_cases hc : a + sub.length ≤ hi ∧ subAt s sub a = true
    · have c1 : (((#[] : Array Nat), free).fst.size < 1 ∧ ((#[] : Array Nat), free).snd ≤ a) ∧ a + sub.length ≤ hi := ⟨⟨by simp, ha⟩, hc.1⟩
      rw [if_pos ⟨c1, hc.2⟩, List.find?_cons, decide_eq_true hc]
      have := occ_full s sub hi l (((#[] : Array Nat).push a), a + sub.length) (by simp)
      refine (congrArg Array.toList this).trans ?_
      rfl
    · have c2 : ¬ (((((#[] : Array Nat), free).fst.size < 1 ∧ ((#[] : Array Nat), free).snd ≤ a) ∧ a + sub.length ≤ hi) ∧ subAt s sub a = true) := fun h => hc ⟨h.1.2, h.2⟩
      rw [if_neg c2, List.find?_cons, decide_eq_false hc]
      have := occ_first s sub hi l free (fun i hi' => hf i (List.mem_cons_of_mem _ hi'))
      unfold occBody at this
      exact this
/-- the first place of c in l from lo on -/
def findC (l : List Nat) (c lo : Nat) : Option Nat := (List.range' lo (l.length + 1 - lo)).find? fun i => decide (l[i]? = some c)
theorem occ_one (l : List Nat) (c lo : Nat) : occurrences (S l) (S [c]) lo (S l).length 1 = (findC l c lo).toList := by
  rw [occ_eq, occ_first _ _ _ _ _ (fun i hi => by simp [List.mem_range'] at hi; omega)]
  have e : (fun i => decide (i + (S [c]).length ≤ (S l).length ∧ subAt (S l) (S [c]) i = true)) = fun i => decide (l[i]? = some c) := by
    funext i
    exact decide_eq_decide.mpr (subAt_one (S l) c i)
  rw [e]
  unfold findC
  rw [S_len]
theorem find3_eq {l : List Nat} {c n : Nat} : Txt.find3 (S l) (S [c]) (n : Int) = match findC l c (min n (n)) with | some k => (k : Int) | none => -1 := by
  unfold Txt.find3
  have e : fromIndex (S l).length (n : Int) = n := by
    unfold fromIndex
    rw [if_neg (by omega)]
    omega
  rw [e, occ_one, Nat.min_self]
  cases findC l c n <;> rfl
theorem findC_hit {pre mid post : List Nat} {c : Nat} (h : c ∉ mid) : findC (pre ++ (mid ++ c :: post)) c pre.length = some (pre.length + mid.length) := by
  unfold findC
  rw [List.find?_range'_eq_some]
  refine ⟨?_, ?_, ?_⟩
  · rw [decide_eq_true_iff, List.getElem?_append_right (by omega), show pre.length + mid.length - pre.length = mid.length by omega, List.getElem?_append_right (Nat.le_refl _)]
    simp
  · simp [List.mem_range']
    omega
  · intro j h1 h2
    simp only [Bool.not_eq_true', decide_eq_false_iff_not]
    rw [List.getElem?_append_right h1, List.getElem?_append_left (by omega)]
    intro q
    exact h (List.mem_of_getElem? q)
theorem findC_none {l : List Nat} {c lo : Nat} (h : c ∉ l.drop lo) : findC l c lo = none := by
  unfold findC
  rw [List.find?_eq_none]
  intro j hj
  simp [List.mem_range'] at hj
  simp only [decide_eq_true_iff]
  intro q
  apply h
  have : (l.drop lo)[j - lo]? = some c := by rw [List.getElem?_drop, show lo + (j - lo) = j by omega]; exact q
  exact List.mem_of_getElem? this
theorem find3_hit {pre mid post : List Nat} {c : Nat} (h : c ∉ mid) : Txt.find3 (S (pre ++ (mid ++ c :: post))) (S [c]) (pre.length : Int) = ((pre.length + mid.length : Nat) : Int) := by
  rw [find3_eq, Nat.min_self, findC_hit h]
theorem find3_none {l : List Nat} {c n : Nat} (h : c ∉ l.drop n) : Txt.find3 (S l) (S [c]) (n : Int) = -1 := by
  rw [find3_eq, Nat.min_self, findC_none h]
/-! ### the sign ahead -/
theorem sub0 (l : List Nat) (c : Nat) : subAt (S l) (S [c]) 0 = decide (l.head? = some c) := by
  rw [subAt_eq]
  show ((l.drop 0).take 1 == [c]) = _
  cases l with
  | nil => rfl
  | cons a r =>
    rw [Bool.eq_iff_iff, beq_iff_eq, decide_eq_true_iff]
    simp
theorem removeprefix_S (l : List Nat) (c : Nat) : Txt.removeprefix (S l) (S [c]) = S (if l.head? = some c then l.tail else l) := by
  unfold Txt.removeprefix
  rw [sub0]
  by_cases h : l.head? = some c
  · rw [if_pos (decide_eq_true h), if_pos h]
    cases l with
    | nil => simp at h
    | cons a r =>
      show Txt.affix _ (some (1, (S (a :: r)).length)) = _
      unfold Txt.affix
      have e : (((S (a :: r)).length - 1 == (S (a :: r)).length) : Bool) = false := by
        rw [S_len]
        simp
      simp only [e, Bool.false_eq_true, if_false]
      apply TL.ext_tl
      show (strSub (S (a :: r)) 1 (S (a :: r)).length).cps.toList = r
      unfold strSub
      rw [S_len]
      simp [Array.toList_extract, List.extract_eq_take_drop]
  · rw [if_neg (by simpa using h), if_neg h]
    rfl
theorem startswith_S (l : List Nat) (c : Nat) : Txt.startswith (S l) (S [c]) = decide (l.head? = some c) := by
  unfold Txt.startswith
  rw [sub0, S_len, S_len]
  cases l with
  | nil => rfl
  | cons a r => simp
theorem isDigit_of {c : Nat} (h : c < 128) : Unicode.isDigit c = (decide (48 ≤ c) && decide (c ≤ 57)) := by
  have e := PySem.W.os_isdigit h
  have e2 : Txt.isdigit ⟨#[c]⟩ = Unicode.isDigit c := by
    show (decide (1 > 0) && (#[c] : Array Nat).all Unicode.isDigit) = _
    simp
  rw [← e2]
  exact e
theorem isdigit_S {l : List Nat} (h : ∀ c ∈ l, c < 128) : Txt.isdigit (S l) = (!l.isEmpty && l.all fun c => decide (48 ≤ c) && decide (c ≤ 57)) := by
  unfold Txt.isdigit
  rw [S_len]
  have e : (S l).cps.all Unicode.isDigit = l.all fun c => decide (48 ≤ c) && decide (c ≤ 57) := by
    rw [← Array.all_toList]
    show l.all Unicode.isDigit = _
    rw [Bool.eq_iff_iff, List.all_eq_true, List.all_eq_true]
    exact ⟨fun q c hc => by rw [← isDigit_of (h c hc)]; exact q c hc, fun q c hc => by rw [isDigit_of (h c hc)]; exact q c hc⟩
  rw [e]
  cases l <;> rfl
end
end PK

set_option Elab.async false
set_option linter.all false
set_option maxRecDepth 100000
set_option maxHeartbeats 2000000
namespace PK
open PySem PySem.Spec PyProof.Rows L2 DL SX
/-! ### lines, by codes -/
def numC (i : Int) : List Nat := if i < 0 then 45 :: TL.numL i.natAbs else TL.numL i.natAbs
mutual
def lineC : PyData → List Nat
  | .none => [126]
  | .int i => 35 :: (numC i ++ [59])
  | .str z => 39 :: (TL.numL z.length ++ 58 :: z.cps.toList)
  | .tuple ds => 40 :: (linesC ds ++ [41])
  | .bool _ => []
  | .list _ => []
  | .dict _ => []
def linesC : List PyData → List Nat
  | [] => []
  | d :: ds => lineC d ++ linesC ds
end
/-- data that can be packed, at most n tuples one in another -/
def pkN (ok : Nat → Bool) : Nat → PyData → Bool
  | _, .none => true
  | _, .int i => decide (i.natAbs ≤ 1000000000000000000)
  | _, .str z => z.cps.toList.all ok
  | n + 1, .tuple ds => ds.all (pkN ok n)
  | _, _ => false
section
variable {ok : Nat → Bool}
theorem pkN_up : ∀ {n : Nat} {d : PyData}, pkN ok n d = true → pkN ok (n + 1) d = true
  | _, .none, _ => by simp [pkN]
  | _, .int _, h => by simpa [pkN] using h
  | _, .str _, h => by simpa [pkN] using h
  | 0, .tuple _, h => by simp [pkN] at h
  | n + 1, .tuple ds, h => by
    simp only [pkN, List.all_eq_true] at h
    rw [pkN, List.all_eq_true]
    exact fun d hd => pkN_up (h d hd)
  | 0, .bool _, h => by simp [pkN] at h
  | _ + 1, .bool _, h => by simp [pkN] at h
  | 0, .list _, h => by simp [pkN] at h
  | _ + 1, .list _, h => by simp [pkN] at h
  | 0, .dict _, h => by simp [pkN] at h
  | _ + 1, .dict _, h => by simp [pkN] at h
theorem pkN_le {n k : Nat} {d : PyData} (h : pkN ok n d = true) (hk : n ≤ k) : pkN ok k d = true := by
  induction hk with
  | refl => exact h
  | step _ ih => exact pkN_up ih
theorem pkN_int {n : Nat} {i : Int} (h : pkN ok n (.int i) = true) : i.natAbs ≤ 1000000000000000000 := by cases n <;> simpa [pkN] using h
theorem pkN_str {n : Nat} {z : Str} (h : pkN ok n (.str z) = true) : z.cps.toList.all ok = true := by cases n <;> simpa [pkN] using h
theorem pkN_tup {n : Nat} {ds : List PyData} (h : pkN ok n (.tuple ds) = true) : ∃ m, n = m + 1 ∧ ∀ d ∈ ds, pkN ok m d = true := by
  cases n with
  | zero => simp [pkN] at h
  | succ m => exact ⟨m, rfl, by simpa [pkN] using h⟩
theorem pkN_list {n : Nat} {ds : List PyData} (h : pkN ok n (.list ds) = true) : False := by cases n <;> simp [pkN] at h
theorem pkN_bool {n : Nat} {k : Bool} (h : pkN ok n (.bool k) = true) : False := by cases n <;> simp [pkN] at h
theorem pkN_dict {n : Nat} {k} (h : pkN ok n (.dict k) = true) : False := by cases n <;> simp [pkN] at h
end
theorem lineC_pos : ∀ {ok : Nat → Bool} {n : Nat} {d : PyData}, pkN ok n d = true → ∃ c r, lineC d = c :: r ∧ c ≠ 41
  | _, _, .none, _ => ⟨126, [], by rw [lineC], by decide⟩
  | _, _, .int i, _ => ⟨35, _, by rw [lineC], by decide⟩
  | _, _, .str z, _ => ⟨39, _, by rw [lineC], by decide⟩
  | _, _, .tuple ds, _ => ⟨40, _, by rw [lineC], by decide⟩
  | _, _, .list _, h => (pkN_list h).elim
  | _, _, .bool _, h => (pkN_bool h).elim
  | _, _, .dict _, h => (pkN_dict h).elim
theorem numC_free {i : Int} {c : Nat} (h : c ≠ 45) (h2 : c < 48 ∨ 57 < c) : c ∉ numC i := by
  unfold numC
  split
  · rw [List.mem_cons]
    rintro (q | q)
    · exact h q
    · exact TL.numL_free h2 q
  · exact TL.numL_free h2
theorem numC_inj {i j : Int} (h : numC i = numC j) : i = j := by
  unfold numC at h
  have f : ∀ n, (45 : Nat) ∉ TL.numL n := fun n => TL.numL_free (.inl (by decide))
  split at h <;> split at h
  · have := TL.numL_inj (List.cons.inj h).2
    omega
  · exact absurd (h ▸ List.mem_cons_self) (f _)
  · exact absurd (h ▸ List.mem_cons_self) (f _)
  · have := TL.numL_inj h
    omega
theorem split_one {c : Nat} : ∀ {p q r s : List Nat}, c ∉ p → c ∉ q → p ++ c :: r = q ++ c :: s → p = q ∧ r = s
  | [], [], r, s, _, _, h => ⟨rfl, (List.cons.inj h).2⟩
  | [], b :: q, r, s, _, h2, h => absurd (List.cons.inj h).1 (fun e => h2 (e ▸ List.mem_cons_self))
  | a :: p, [], r, s, h1, _, h => absurd (List.cons.inj h).1 (fun e => h1 (e ▸ List.mem_cons_self))
  | a :: p, b :: q, r, s, h1, h2, h => by
    obtain ⟨e1, e2⟩ := List.cons.inj h
    obtain ⟨e3, e4⟩ := split_one (fun m => h1 (List.mem_cons_of_mem _ m)) (fun m => h2 (List.mem_cons_of_mem _ m)) e2
    exact ⟨by rw [e1, e3], e4⟩
theorem str_ext {x y : Str} (h : x.cps.toList = y.cps.toList) : x = y := TL.ext_tl h
mutual
theorem line_inj {ok : Nat → Bool} : ∀ (d : PyData) {n n' : Nat} (d' : PyData) {r r' : List Nat}, pkN ok n d = true → pkN ok n' d' = true → lineC d ++ r = lineC d' ++ r' → d = d' ∧ r = r'
  | .none, _, _, d', r, r', _, h', h => by
    cases d' with
    | none => rw [lineC] at h; exact ⟨rfl, (List.cons.inj h).2⟩
    | int j => rw [lineC, lineC] at h; exact absurd (List.cons.inj h).1 (by decide)
    | str j => rw [lineC, lineC] at h; exact absurd (List.cons.inj h).1 (by decide)
    | tuple j => rw [lineC, lineC] at h; exact absurd (List.cons.inj h).1 (by decide)
    | bool j => exact (pkN_bool h').elim
    | list j => exact (pkN_list h').elim
    | dict j => exact (pkN_dict h').elim
  | .int i, _, _, d', r, r', _, h', h => by
    cases d' with
    | none => rw [lineC, lineC] at h; exact absurd (List.cons.inj h).1 (by decide)
    | int j =>
      rw [lineC, lineC, List.cons_append, List.cons_append, List.append_assoc, List.append_assoc] at h
      obtain ⟨e1, e2⟩ := split_one (numC_free (by decide) (by decide)) (numC_free (by decide) (by decide)) (List.cons.inj h).2
      exact ⟨by rw [numC_inj e1], e2⟩
    | str j => rw [lineC, lineC] at h; exact absurd (List.cons.inj h).1 (by decide)
    | tuple j => rw [lineC, lineC] at h; exact absurd (List.cons.inj h).1 (by decide)
    | bool j => exact (pkN_bool h').elim
    | list j => exact (pkN_list h').elim
    | dict j => exact (pkN_dict h').elim
  | .str z, _, _, d', r, r', _, h', h => by
    cases d' with
    | none => rw [lineC, lineC] at h; exact absurd (List.cons.inj h).1 (by decide)
    | int j => rw [lineC, lineC] at h; exact absurd (List.cons.inj h).1 (by decide)
    | str y =>
      rw [lineC, lineC, List.cons_append, List.cons_append, List.append_assoc, List.append_assoc] at h
      obtain ⟨e1, e2⟩ := split_one (TL.numL_free (.inr (by decide))) (TL.numL_free (.inr (by decide))) (List.cons.inj h).2
      have e3 : z.length = y.length := TL.numL_inj e1
      obtain ⟨e4, e5⟩ := List.append_inj e2 e3
      exact ⟨by rw [str_ext e4], e5⟩
    | tuple j => rw [lineC, lineC] at h; exact absurd (List.cons.inj h).1 (by decide)
    | bool j => exact (pkN_bool h').elim
    | list j => exact (pkN_list h').elim
    | dict j => exact (pkN_dict h').elim
  | .tuple ds, _, _, d', r, r', h0, h', h => by
    cases d' with
    | none => rw [lineC, lineC] at h; exact absurd (List.cons.inj h).1 (by decide)
    | int j => rw [lineC, lineC] at h; exact absurd (List.cons.inj h).1 (by decide)
    | str j => rw [lineC, lineC] at h; exact absurd (List.cons.inj h).1 (by decide)
    | tuple es =>
      rw [lineC, lineC, List.cons_append, List.cons_append, List.append_assoc, List.append_assoc] at h
      obtain ⟨m, rfl, hd⟩ := pkN_tup h0
      obtain ⟨m', rfl, he⟩ := pkN_tup h'
      obtain ⟨e1, e2⟩ := lines_inj ds es hd he (List.cons.inj h).2
      exact ⟨by rw [e1], e2⟩
    | bool j => exact (pkN_bool h').elim
    | list j => exact (pkN_list h').elim
    | dict j => exact (pkN_dict h').elim
  | .bool _, _, _, _, _, _, h, _, _ => (pkN_bool h).elim
  | .list _, _, _, _, _, _, h, _, _ => (pkN_list h).elim
  | .dict _, _, _, _, _, _, h, _, _ => (pkN_dict h).elim
theorem lines_inj {ok : Nat → Bool} : ∀ (ds : List PyData) {n n' : Nat} (es : List PyData) {r r' : List Nat}, (∀ d ∈ ds, pkN ok n d = true) → (∀ d ∈ es, pkN ok n' d = true) → linesC ds ++ ([41] ++ r) = linesC es ++ ([41] ++ r') → ds = es ∧ r = r'
  | [], _, _, [], r, r', _, _, h => ⟨rfl, (List.cons.inj h).2⟩
  | [], _, _, e :: es, r, r', _, he, h => by
    obtain ⟨c, q, e1, e2⟩ := lineC_pos (he e (by simp))
    rw [linesC, linesC, e1] at h
    exact absurd (List.cons.inj h).1.symm e2
  | d :: ds, _, _, [], r, r', hd, _, h => by
    obtain ⟨c, q, e1, e2⟩ := lineC_pos (hd d (by simp))
    rw [linesC, linesC, e1] at h
    exact absurd (List.cons.inj h).1 e2
  | d :: ds, _, _, e :: es, r, r', hd, he, h => by
    rw [linesC, linesC, List.append_assoc, List.append_assoc] at h
    obtain ⟨e1, e2⟩ := line_inj d e (hd d (by simp)) (he e (by simp)) h
    obtain ⟨e3, e4⟩ := lines_inj ds es (fun x hx => hd x (by simp [hx])) (fun x hx => he x (by simp [hx])) e2
    exact ⟨by rw [e1, e3], e4⟩
end
/-! ### signs of a line -/
theorem numL_signs {n c : Nat} (h : c ∈ TL.numL n) : 48 ≤ c ∧ c ≤ 57 := TL.numL_digits n c h
theorem numC_val {i : Int} (h : i.natAbs ≤ 1000000000000000000) : intText? (S (numC i)) = some i := by
  have hl : (TL.numL i.natAbs).length ≤ 19 := TL.numL_len (by decide) (Nat.lt_of_le_of_lt h (by decide))
  unfold numC
  split
  · rename_i hi
    have e := intText_neg (x := S (45 :: TL.numL i.natAbs)) (cs := TL.numL i.natAbs) rfl (TL.numL_digits _) (TL.numL_ne _) (by rw [S_len]; simp only [List.length_cons]; omega)
    rw [TL.numL_val] at e
    rw [e]
    congr 1
    omega
  · have e := intText_digits (x := S (TL.numL i.natAbs)) (TL.numL_digits _) (TL.numL_ne _) (by rw [S_len]; omega)
    rw [show (S (TL.numL i.natAbs)).cps.toList = TL.numL i.natAbs from rfl, TL.numL_val] at e
    rw [e]
    congr 1
    omega
theorem numC_len {i : Int} (h : i.natAbs ≤ 1000000000000000000) : (numC i).length ≤ 20 := by
  have hl : (TL.numL i.natAbs).length ≤ 19 := TL.numL_len (by decide) (Nat.lt_of_le_of_lt h (by decide))
  unfold numC
  split
  · simp only [List.length_cons]; omega
  · omega
theorem str_int (i : Int) : Str.ofString (toString i) = S (numC i) := by
  unfold numC
  cases i with
  | ofNat n =>
    rw [if_neg (by simp)]
    exact num_S n
  | negSucc n =>
    rw [if_pos (Int.negSucc_lt_zero n)]
    have e : (Int.negSucc n).natAbs = n + 1 := rfl
    rw [e]
    have e2 := num_S (n + 1)
    refine TL.ext_tl ?_
    have e3 : TL.tl (Str.ofString (toString ((n + 1 : Nat) : Int))) = TL.numL (n + 1) := TL.tl_num (n + 1)
    show (Str.ofString (toString (Int.negSucc n))).cps.toList = 45 :: TL.numL (n + 1)
    rw [← e3]
    have e4 : toString (Int.negSucc n) = "-" ++ toString ((n + 1 : Nat) : Int) := by
      show Int.repr (Int.negSucc n) = "-" ++ Int.repr (Int.ofNat (n + 1))
      simp [Int.repr]
    rw [e4, Str.ofString_eq_toList, Str.ofString_eq_toList]
    show List.map Char.toNat ("-" ++ toString ((n + 1 : Nat) : Int)).toList = 45 :: List.map Char.toNat (toString ((n + 1 : Nat) : Int)).toList
    rw [String.toList_append]
    rfl
theorem linesC_append : ∀ (xs ys : List PyData), linesC (xs ++ ys) = linesC xs ++ linesC ys
  | [], ys => by rw [List.nil_append, linesC, List.nil_append]
  | x :: xs, ys => by rw [List.cons_append, linesC, linesC, linesC_append xs ys, List.append_assoc]
theorem linesC_flat : ∀ ds : List PyData, linesC ds = (ds.map lineC).flatten
  | [] => by rw [linesC]; rfl
  | d :: ds => by rw [linesC, linesC_flat ds]; rfl
theorem lines_len {ok : Nat → Bool} {n : Nat} : ∀ ds : List PyData, (∀ d ∈ ds, pkN ok n d = true) → ds.length ≤ (linesC ds).length
  | [], _ => Nat.zero_le _
  | d :: ds, h => by
    have ih := lines_len ds fun x hx => h x (by simp [hx])
    obtain ⟨c, q, e1, _⟩ := lineC_pos (h d (by simp))
    rw [linesC, e1]
    simp only [List.length_cons, List.length_append]
    omega
theorem line_mem {ds : List PyData} {d : PyData} (h : d ∈ ds) : (lineC d).length ≤ (linesC ds).length := by
  induction ds with
  | nil => cases h
  | cons x xs ih =>
    rw [linesC, List.length_append]
    rcases List.mem_cons.mp h with rfl | h
    · omega
    · have := ih h
      omega
end PK
namespace PK
open PySem PySem.Spec PyProof.Rows L2 DL SX
def TS : Str := " !\"#$&'()*+,-./0123456789:;<=>?@ABCDEFGHIJKLMNOPQRSTUVWXYZ[\\]^_`abcdefghijklmnopqrstuvwxyz{|}~"
def inTS (c : Nat) : Bool := decide (c ∈ TS.cps.toList)
theorem ts_small : ∀ c ∈ TS.cps.toList, 32 ≤ c ∧ c < 127 := by decide +kernel
theorem inTS_lt {c : Nat} (h : inTS c = true) : 32 ≤ c ∧ c < 127 := ts_small c (by simpa [inTS] using h)
theorem l35 : ("#" : Str) = S [35] := by decide +kernel
theorem l59 : (";" : Str) = S [59] := by decide +kernel
theorem l39 : ("'" : Str) = S [39] := by decide +kernel
theorem l58 : (":" : Str) = S [58] := by decide +kernel
theorem l40 : ("(" : Str) = S [40] := by decide +kernel
theorem l41 : (")" : Str) = S [41] := by decide +kernel
theorem l126 : ("~" : Str) = S [126] := by decide +kernel
theorem l0 : ("" : Str) = S [] := by decide +kernel
theorem l45 : ("-" : Str) = S [45] := by decide +kernel
theorem l48 : ("0" : Str) = S [48] := by decide +kernel
theorem l4548 : ("-0" : Str) = S [45, 48] := by decide +kernel
theorem str_S (z : Str) : PyData.str z = sd z.cps.toList := congrArg PyData.str (S_tl z).symm
theorem log_int {i : Int} (h : i.natAbs ≤ 1000000000000000000) : i.natAbs.log2 < 1920 := by
  by_cases h0 : i.natAbs = 0
  · rw [h0]; decide
  · have := (Nat.log2_lt h0 (k := 64)).mpr (Nat.lt_of_le_of_lt h (by decide))
    omega
section
variable {X : Cx} {O : Own} {P : W → Own → Prop}
theorem b_addC {a b : List Nat} (hl : a.length + b.length ≤ 10000000) (h : P (.d (sd (a ++ b))) O) : BinD X (binaryOp .Add) (.d (sd a)) (.d (sd b)) O P :=
  b_addS (by rw [S_len, S_len, sizeLine_eq]; omega) (by rw [S_cat]; exact h)
theorem c_strC {i : Int} (hi : i.natAbs ≤ 1000000000000000000) (h : P (.d (sd (numC i))) O) : CallD X (.type "str") [.d (.int i)] O P :=
  c_strI (log_int hi) (by
    have e : (↑(toString i) : Str) = S (numC i) := str_int i
    rw [e]
    exact h)
theorem numC_nat (n : Nat) : numC (n : Int) = TL.numL n := by
  unfold numC
  rw [if_neg (by omega)]
  rfl
theorem m_joinC {x : List Nat} {ys : List (List Nat)} {w : W} (r : RdL w O (ys.map sd)) (hz : (ys.map (·.length)).sum + ys.length * x.length ≤ 16777216) (h : P (.d (sd (TL.joinL x ys))) O) : MetD X "str" "str.join" (.d (sd x)) [w] O P :=
  m_join (ys := ys.map S) (by rw [List.map_map]; exact r) (by rw [lens, List.length_map, S_len]; exact hz) (by rw [join_S]; exact h)
end
theorem joinL_nil (ys : List (List Nat)) : TL.joinL [] ys = ys.flatten := by
  induction ys with
  | nil => rfl
  | cons p r ih =>
    cases r with
    | nil => simp [TL.joinL]
    | cons q r => rw [TL.joinL, ih]; rfl
theorem sum_flat (ys : List (List Nat)) : (ys.map (·.length)).sum = ys.flatten.length := by rw [List.length_flatten]
/-- a def that calls itself -/
structure SelfAt (K : PySem.W.Frag) (mg : Str → Option Value) (x : Str) (f : Addr) (fd : FuncData) (ps : List Str) : Prop where
  name : mg x = some (.ref f)
  keep : PySem.W.keepIn K (.ref f) = true
  binds : Binds K fd ps []
theorem SelfAt.def {P : Program} {w : World} {K : PySem.W.Frag} {mg : Str → Option Value} {base : Heap} {k n : Nat} {x : Str} {f : Addr} {fd : FuncData} {ps : List Str} {pre : Pre} (M : SelfAt K mg x f fd ps) (F : FnOk P w K mg base CX0 k f fd ps (spD K n pre)) : Def P w K mg base k x n pre := ⟨f, fd, ps, F, M.name, M.keep, M.binds⟩
end PK
namespace PK
open PySem PySem.Spec PyProof.Rows L2 DL SX
/-! ### reading -/
theorem numC_strip (i : Int) : (if (numC i).head? = some 45 then (numC i).tail else numC i) = TL.numL i.natAbs := by
  have f : ∀ n, (45 : Nat) ∉ TL.numL n := fun n => TL.numL_free (.inl (by decide))
  unfold numC
  by_cases h : i < 0
  · rw [if_pos h]
    rfl
  · rw [if_neg h, if_neg]
    intro q
    exact f _ (List.mem_of_head? q)
theorem numL_zero : TL.numL 0 = [48] := TL.numL_lt (by decide)
theorem numL_head : ∀ n : Nat, n ≠ 0 → (TL.numL n).head? ≠ some 48 := by
  intro n
  induction n using Nat.strongRecOn with
  | _ n ih =>
    intro h
    by_cases h10 : n < 10
    · rw [TL.numL_lt h10]
      simp
      omega
    · rw [TL.numL_step (by omega), List.head?_append]
      have := ih (n / 10) (by omega) (by omega)
      cases e : (TL.numL (n / 10)).head? with
      | none => exact absurd (List.head?_eq_none_iff.mp e) (TL.numL_ne _)
      | some c => rw [e] at this; simpa using this
theorem numC_minus0 (i : Int) : S (numC i) ≠ ("-0" : Str) := by
  rw [l4548]
  intro q
  have e := S_inj q
  unfold numC at e
  split at e
  · have e2 := (List.cons.inj e).2
    rw [← numL_zero] at e2
    have := TL.numL_inj e2
    omega
  · have f : (45 : Nat) ∉ TL.numL i.natAbs := TL.numL_free (.inl (by decide))
    rw [e] at f
    simp at f
theorem numL_isdigit (n : Nat) : Txt.isdigit (S (TL.numL n)) = true := by
  rw [isdigit_S fun c hc => by have := numL_signs hc; omega]
  have h : (TL.numL n).isEmpty = false := by
    cases e : TL.numL n with
    | nil => exact absurd e (TL.numL_ne n)
    | cons a r => rfl
  rw [h, Bool.not_false, Bool.true_and, List.all_eq_true]
  intro c hc
  have := numL_signs hc
  simp [this]
theorem numL_len19 {n : Nat} (h : n ≤ 1000000000000000000) : (TL.numL n).length ≤ 19 := TL.numL_len (by decide) (Nat.lt_of_le_of_lt h (by decide))
theorem numL_val {n : Nat} (h : n ≤ 1000000000000000000) : intText? (S (TL.numL n)) = some (n : Int) := by
  have := numC_val (i := (n : Int)) (by omega)
  rw [numC_nat] at this
  exact this
theorem mid_of (pre mid post : List Nat) {i j : Int} (hi : i = pre.length) (hj : j = pre.length + mid.length) : ((pre ++ (mid ++ post)).take j.toNat).drop i.toNat = mid := by
  have e1 : j.toNat = pre.length + mid.length := by omega
  have e2 : i.toNat = pre.length := by omega
  rw [e1, e2, List.drop_take, List.drop_left, show pre.length + mid.length - pre.length = mid.length by omega, List.take_left]
theorem one_of (pre : List Nat) (c : Nat) (post : List Nat) {i j : Int} (hi : i = pre.length) (hj : j = pre.length + 1) : ((pre ++ (c :: post)).take j.toNat).drop i.toNat = [c] := mid_of pre [c] post hi hj
/-- signs by their codes -/
def kfS : PyData → Key
  | .str s => .inl ((s.cps.getD 0 0 : Nat) : Int)
  | _ => .inl 0
theorem dict_signs (cs : List Nat) (c : Nat) : ∀ acc : List (Key × PyData), valD ((cs.map fun c => sd [c]).foldl (fun acc d => if (fun _ => true) d = true then putD acc (kfS d) d else acc) acc) (.inl (c : Int)) = if c ∈ cs then some (sd [c]) else valD acc (.inl (c : Int)) := by
  induction cs with
  | nil => intro acc; rfl
  | cons a r ih =>
    intro acc
    rw [List.map_cons, List.foldl_cons, ih, if_pos rfl, valD_put]
    have e : kfS (sd [a]) = .inl (a : Int) := rfl
    rw [e]
    by_cases h : c ∈ r
    · rw [if_pos h, if_pos (List.mem_cons_of_mem _ h)]
    · rw [if_neg h]
      by_cases h2 : c = a
      · subst h2
        rw [if_pos rfl, if_pos List.mem_cons_self]
      · rw [if_neg (fun q => h2 (by cases q; rfl)), if_neg (fun q => (List.mem_cons.mp q).elim h2 h)]
def intS : PyData → PyData
  | .int i => sd [i.toNat]
  | _ => .none
end PK
namespace PK
theorem flat_one : ∀ l : List Nat, (l.map fun c => [c]).flatten = l
  | [] => rfl
  | a :: r => by rw [List.map_cons, List.flatten_cons, flat_one r]; rfl
end PK
namespace PK
open PySem PySem.Spec PyProof.Rows L2 DL SX
/-! ### packable data are data -/
theorem ts_ok {z : Str} (h : z.cps.toList.all inTS = true) : PyData.strOk z = true := by
  simp only [PyData.strOk]
  rw [← Array.all_toList, List.all_eq_true]
  intro c hc
  have := inTS_lt (List.all_eq_true.mp h c hc)
  exact decide_eq_true (by omega)
theorem pk_lay : ∀ {n : Nat} {d : PyData}, pkN inTS n d = true → d.canLay0 = true ∧ d.depth ≤ n ∧ nbD d = true
  | _, .none, _ => ⟨rfl, Nat.zero_le _, rfl⟩
  | _, .int _, _ => ⟨rfl, Nat.zero_le _, rfl⟩
  | n, .str z, h => ⟨ts_ok (pkN_str h), Nat.zero_le _, rfl⟩
  | 0, .tuple _, h => by simp [pkN] at h
  | n + 1, .tuple ds, h => by
    simp only [pkN, List.all_eq_true] at h
    have ih : ∀ d ∈ ds, d.canLay0 = true ∧ d.depth ≤ n ∧ nbD d = true := fun d hd => pk_lay (h d hd)
    refine ⟨?_, ?_, ?_⟩
    · simp only [PyData.canLay0]
      have := canLayAll_map (f := id) ds fun d hd => (ih d hd).1
      simpa using this
    · simp only [PyData.depth]
      have := depthAll_map (f := id) (n := n) ds fun d hd => (ih d hd).2.1
      simpa using this
    · simp only [nbD]
      have := nbAll_map (f := id) ds fun d hd => (ih d hd).2.2
      simpa using this
  | _, .bool _, h => (pkN_bool h).elim
  | _, .list _, h => (pkN_list h).elim
  | _, .dict _, h => (pkN_dict h).elim
theorem pk_shaped {n : Nat} {d : PyData} (h : pkN inTS n d = true) (hn : n ≤ 60) : SeqAt.shaped d = true := by
  obtain ⟨a, b, _⟩ := pk_lay h
  exact shaped_mk a (by omega)
theorem pk_eqv {n n' : Nat} {d e : PyData} (h : pkN inTS n d = true) (h' : pkN inTS n' e = true) : PyData.eqv d e = true ↔ d = e := eqv_iff (pk_lay h).2.2 (pk_lay h').2.2 (pk_lay h).1
abbrev octD (l : List Nat) : PyData := .list (l.map fun (c : Nat) => .int c)
theorem oct_shaped (l : List Nat) : SeqAt.shaped (octD l) = true := by
  refine shaped_mk ?_ ?_
  · simp only [octD, PyData.canLay0]
    exact canLayAll_map l fun v _ => rfl
  · simp only [octD, PyData.depth]
    exact Nat.le_trans (Nat.succ_le_succ (depthAll_map (n := 0) l fun v _ => Nat.le_refl _)) (by decide)
theorem oct_nb (l : List Nat) : nbD (octD l) = true := by
  simp only [octD, nbD]
  exact nbAll_map l fun _ _ => rfl
theorem oct_inj {a b : List Nat} (h : octD a = octD b) : a = b := by
  have h2 : (a.map fun (c : Nat) => PyData.int c) = b.map fun (c : Nat) => PyData.int c := PyData.list.inj h
  refine (List.map_inj_right ?_).mp h2
  intro x y e
  have := PyData.int.inj e
  omega
theorem oct_eqv (a b : List Nat) : PyData.eqv (octD a) (octD b) = decide (a = b) := by
  rw [Bool.eq_iff_iff, decide_eq_true_iff]
  have hl : (octD a).canLay0 = true := by
    simp only [octD, PyData.canLay0]
    exact canLayAll_map a fun v _ => rfl
  rw [eqv_iff (oct_nb a) (oct_nb b) hl]
  exact ⟨oct_inj, fun h => by rw [h]⟩
theorem pk_pre {n n' : Nat} {d e : PyData} (h : pkN inTS n d = true) (h' : pkN inTS n' e = true) {k : Nat} (q : (lineC d).take k = lineC e) : d = e := by
  have e1 : lineC d ++ [] = lineC e ++ (lineC d).drop k := by
    rw [List.append_nil, ← q, List.take_append_drop]
  exact (line_inj d e h h' e1).1
theorem pk_same {n n' : Nat} {d e : PyData} (h : pkN inTS n d = true) (h' : pkN inTS n' e = true) (q : lineC d = lineC e) : d = e := pk_pre h h' (k := (lineC d).length) (by rw [List.take_length]; exact q)
theorem pk_flat {n : Nat} {d : PyData} (h : pkN inTS n d = true) (h2 : isTupD d = false) : pkN inTS 0 d = true := by
  cases d with
  | tuple ds => cases h2
  | none => simp [pkN]
  | int i => simpa [pkN] using pkN_int h
  | str z => simpa [pkN] using pkN_str h
  | bool k => exact (pkN_bool h).elim
  | list k => exact (pkN_list h).elim
  | dict k => exact (pkN_dict h).elim
def LL : Nat → Nat
  | 0 => 22
  | e + 1 => 2 + 4 * LL e
theorem lines_le {m : Nat} : ∀ {ds : List PyData}, (∀ d ∈ ds, (lineC d).length ≤ m) → (linesC ds).length ≤ ds.length * m
  | [], _ => by rw [linesC]; simp
  | d :: ds, h => by
    rw [linesC, List.length_append, List.length_cons, Nat.succ_mul]
    have := lines_le (ds := ds) fun x hx => h x (by simp [hx])
    have := h d (by simp)
    omega
end PK

set_option Elab.async false
set_option linter.all false
set_option maxRecDepth 100000
set_option maxHeartbeats 2000000
namespace PK
open PySem PySem.Spec PyProof.Rows L2 DL SX
/-! ### reading any line -/
theorem val_snoc (cs : List Nat) (c : Nat) : NumText.digitsVal (cs ++ [c]) = NumText.digitsVal cs * 10 + (c - 48) := by
  simp [NumText.digitsVal, List.foldl_append]
/-- a row of digits is a number's, if it does not begin with a naught that is not all of it -/
theorem numL_of : ∀ (n : Nat) (cs : List Nat), cs.length = n → cs ≠ [] → (∀ c ∈ cs, 48 ≤ c ∧ c ≤ 57) → (cs = [48] ∨ cs.head? ≠ some 48) → TL.numL (NumText.digitsVal cs) = cs := by
  intro n
  induction n with
  | zero =>
    intro cs h1 h2 _ _
    exact absurd (List.length_eq_zero_iff.mp h1) h2
  | succ n ih =>
    intro cs h1 h2 h3 h4
    rcases List.eq_nil_or_concat cs with rfl | ⟨ds, c, rfl⟩
    · exact absurd rfl h2
    rw [List.concat_eq_append] at *
    have hc := h3 c (by simp)
    rw [val_snoc]
    by_cases hd : ds = []
    · subst hd
      rw [show NumText.digitsVal [] = 0 from rfl, TL.numL_lt (by omega)]
      simp
      omega
    · have hh : ds.head? ≠ some 48 := by
        intro q
        rcases h4 with h4 | h4
        · have := congrArg List.length h4
          simp at this
          exact hd this
        · apply h4
          rw [List.head?_append, q]
          rfl
      have e := ih ds (by simpa using h1) hd (fun x hx => h3 x (by simp [hx])) (.inr hh)
      have h0 : NumText.digitsVal ds ≠ 0 := by
        intro q
        rw [q, numL_zero] at e
        exact hh (by rw [← e]; rfl)
      rw [TL.numL_step (by omega)]
      rw [show (NumText.digitsVal ds * 10 + (c - 48)) / 10 = NumText.digitsVal ds by omega, show 48 + (NumText.digitsVal ds * 10 + (c - 48)) % 10 = c by omega, e]
def plainB (cs : List Nat) : Bool := !cs.isEmpty && cs.all (fun c => decide (48 ≤ c) && decide (c ≤ 57)) && decide (cs.length ≤ 19) && (decide (cs = [48]) || decide (cs.head? ≠ some 48))
theorem plainB_iff {cs : List Nat} : plainB cs = true ↔ ∃ n, cs = TL.numL n ∧ (TL.numL n).length ≤ 19 := by
  simp only [plainB, Bool.and_eq_true, Bool.not_eq_true', List.isEmpty_eq_false_iff, List.all_eq_true, decide_eq_true_eq, Bool.or_eq_true]
  constructor
  · rintro ⟨⟨⟨h1, h2⟩, h3⟩, h4⟩
    have e := numL_of _ cs rfl h1 (fun c hc => h2 c hc) h4
    exact ⟨_, e.symm, by rw [e]; exact h3⟩
  · rintro ⟨n, rfl, h⟩
    refine ⟨⟨⟨TL.numL_ne n, fun c hc => numL_signs hc⟩, h⟩, ?_⟩
    by_cases h0 : n = 0
    · subst h0
      exact .inl numL_zero
    · exact .inr (numL_head n h0)
theorem numC_valL {i : Int} (h : (numC i).length ≤ 4000) : intText? (S (numC i)) = some i := by
  unfold numC at h ⊢
  split
  · rename_i hi
    rw [if_pos hi] at h
    have e := intText_neg (x := S (45 :: TL.numL i.natAbs)) (cs := TL.numL i.natAbs) rfl (TL.numL_digits _) (TL.numL_ne _) (by rw [S_len]; omega)
    rw [TL.numL_val] at e
    rw [e]
    congr 1
    omega
  · rename_i hi
    rw [if_neg hi] at h
    have e := intText_digits (x := S (TL.numL i.natAbs)) (TL.numL_digits _) (TL.numL_ne _) (by rw [S_len]; omega)
    rw [show (S (TL.numL i.natAbs)).cps.toList = TL.numL i.natAbs from rfl, TL.numL_val] at e
    rw [e]
    congr 1
    omega
theorem numL_valL {n : Nat} (h : (TL.numL n).length ≤ 4000) : intText? (S (TL.numL n)) = some (n : Int) := by
  have := numC_valL (i := (n : Int)) (by rw [numC_nat]; exact h)
  rw [numC_nat] at this
  exact this
abbrev stripC (l : List Nat) : List Nat := if l.head? = some 45 then l.tail else l
/-- a row that is told by its digits is a number's -/
theorem numC_of {mid : List Nat} (h : plainB (stripC mid) = true) (h0 : mid ≠ [45, 48]) : ∃ i : Int, mid = numC i ∧ TL.numL i.natAbs = stripC mid := by
  obtain ⟨n, e, -⟩ := plainB_iff.mp h
  unfold stripC at e ⊢
  by_cases q : mid.head? = some 45
  · rw [if_pos q] at e ⊢
    cases mid with
    | nil => cases q
    | cons a r =>
      have : a = 45 := by simpa using q
      subst this
      have e' : r = TL.numL n := e
      have hn : n ≠ 0 := by
        rintro rfl
        rw [numL_zero] at e'
        exact h0 (by rw [e'])
      refine ⟨-(n : Int), ?_, by simp [e']⟩
      unfold numC
      rw [if_pos (by omega), e']
      simp
  · rw [if_neg q] at e ⊢
    refine ⟨(n : Int), by rw [numC_nat, e], by simp [e]⟩
/-- and a number's row is told by its digits -/
theorem numC_plain {i : Int} (h : i.natAbs ≤ 1000000000000000000) : plainB (stripC (numC i)) = true ∧ numC i ≠ [45, 48] := by
  refine ⟨?_, fun q => numC_minus0 i (by rw [q]; exact l4548.symm)⟩
  rw [show stripC (numC i) = TL.numL i.natAbs from numC_strip i]
  exact plainB_iff.mpr ⟨_, rfl, numL_len19 h⟩
/-- a row up to the first sign c -/
theorem first_split {c : Nat} : ∀ {l : List Nat}, c ∈ l → ∃ mid post, l = mid ++ c :: post ∧ c ∉ mid
  | a :: r, h => by
    by_cases e : a = c
    · exact ⟨[], r, by rw [e]; rfl, by simp⟩
    · have hr : c ∈ r := by
        rcases List.mem_cons.mp h with q | q
        · exact absurd q.symm e
        · exact q
      obtain ⟨m, p, e1, e2⟩ := first_split hr
      exact ⟨a :: m, p, by rw [e1]; rfl, by
        intro q
        rcases List.mem_cons.mp q with q | q
        · exact e q.symm
        · exact e2 q⟩
theorem numC_cut {i : Int} {c : Nat} {mid post post' : List Nat} (hc : c ≠ 45) (h2 : c < 48 ∨ 57 < c) (hm : c ∉ mid) (h : numC i ++ c :: post = mid ++ c :: post') : numC i = mid ∧ post = post' := split_one (numC_free hc h2) hm h
theorem numL_cut {n : Nat} {c : Nat} {mid post post' : List Nat} (h2 : c < 48 ∨ 57 < c) (hm : c ∉ mid) (h : TL.numL n ++ c :: post = mid ++ c :: post') : TL.numL n = mid ∧ post = post' := split_one (TL.numL_free h2) hm h
/-- what is read behind ds of a row of tuples' items -/
theorem lines_rest {ok : Nat → Bool} {n n' : Nat} {ds es : List PyData} {r post : List Nat} (hd : ∀ d ∈ ds, pkN ok n d = true) (he : ∀ d ∈ es, pkN ok n' d = true) (h : linesC ds ++ r = linesC es ++ 41 :: post) :
    (∃ fs, es = ds ++ fs ∧ r = linesC fs ++ 41 :: post) := by
  induction ds generalizing es with
  | nil => exact ⟨es, rfl, by simpa [linesC] using h⟩
  | cons d ds ih =>
    cases es with
    | nil =>
      obtain ⟨c, q, e1, e2⟩ := lineC_pos (hd d (by simp))
      rw [linesC, linesC, e1, List.nil_append, List.append_assoc, List.cons_append] at h
      exact absurd (List.cons.inj h).1 e2
    | cons e es =>
      rw [linesC, linesC, List.append_assoc, List.append_assoc] at h
      obtain ⟨e1, e2⟩ := line_inj d e (hd d (by simp)) (he e (by simp)) h
      subst e1
      obtain ⟨fs, h1, h2⟩ := ih (fun x hx => hd x (by simp [hx])) (fun x hx => he x (by simp [hx])) e2
      exact ⟨fs, by rw [h1]; rfl, h2⟩
end PK
namespace PK
open PySem PySem.Spec PyProof.Rows L2 DL SX
theorem hd_cases {n : Nat} {d : PyData} (h : pkN inTS n d = true) {c : Nat} {r post : List Nat} (q : c :: r = lineC d ++ post) : (c = 126 ∧ d = .none ∧ r = post) ∨ (c = 35 ∧ ∃ i, d = .int i ∧ i.natAbs ≤ 1000000000000000000 ∧ r = numC i ++ 59 :: post) ∨ (c = 39 ∧ ∃ z, d = .str z ∧ r = TL.numL z.length ++ 58 :: (z.cps.toList ++ post)) ∨ (c = 40 ∧ ∃ ds m, d = .tuple ds ∧ n = m + 1 ∧ (∀ d ∈ ds, pkN inTS m d = true) ∧ r = linesC ds ++ 41 :: post) := by
  cases d with
  | none =>
    rw [lineC] at q
    obtain ⟨a, b⟩ := List.cons.inj q
    exact .inl ⟨a, rfl, b⟩
  | int i =>
    rw [lineC] at q
    obtain ⟨a, b⟩ := List.cons.inj q
    exact .inr (.inl ⟨a, i, rfl, pkN_int h, by rw [b]; simp⟩)
  | str z =>
    rw [lineC] at q
    obtain ⟨a, b⟩ := List.cons.inj q
    exact .inr (.inr (.inl ⟨a, z, rfl, by rw [b]; simp⟩))
  | tuple ds =>
    rw [lineC] at q
    obtain ⟨a, b⟩ := List.cons.inj q
    obtain ⟨m, e, hm⟩ := pkN_tup h
    exact .inr (.inr (.inr ⟨a, ds, m, rfl, e, hm, by rw [b]; simp⟩))
  | bool k => exact (pkN_bool h).elim
  | list k => exact (pkN_list h).elim
  | dict k => exact (pkN_dict h).elim
end PK

set_option Elab.async false
set_option linter.all false
set_option maxRecDepth 100000
set_option maxHeartbeats 2000000
/-! things in things, owned: cells that hold references -/
namespace DL
open PySem PySem.Spec PyProof.Rows L2
/-! ### what is owned, in another order, and less of it -/
def Les (O' O : Own) : Prop := ∃ R, (O' ++ R).Perm O
theorem Les.refl (O : Own) : Les O O := ⟨[], by rw [List.append_nil]⟩
theorem Les.of {O O' : Own} (h : O'.Perm O) : Les O' O := ⟨[], by rw [List.append_nil]; exact h⟩
theorem Les.trans {O O' O'' : Own} (h : Les O'' O') (g : Les O' O) : Les O'' O := by
  obtain ⟨R, p⟩ := h
  obtain ⟨R2, q⟩ := g
  refine ⟨R ++ R2, ?_⟩
  rw [← List.append_assoc]
  exact (p.append_right R2).trans q
theorem Les.cons {O O' : Own} (x : Addr × Cell) (h : Les O' O) : Les (x :: O') (x :: O) := by
  obtain ⟨R, p⟩ := h
  exact ⟨R, p.cons x⟩
theorem Les.drop {O : Own} (x : Addr × Cell) : Les O (x :: O) := ⟨[x], List.perm_append_comm⟩
theorem Sep.sub {K : PySem.W.Frag} {Hr H : Hp} {O O' : Own} (h : Les O' O) (S : Sep K Hr O H) : Sep K Hr O' H := by
  obtain ⟨R, p⟩ := h
  refine ⟨S.ex, fun x hx => S.own x (p.mem_iff.mp (List.mem_append_left R hx)), ?_⟩
  have q := (p.map (·.1)).nodup_iff.mpr S.nd
  rw [List.map_append] at q
  exact (List.nodup_append.mp q).1
section
variable {X : Cx} {τ : Tau} {O : Own} {P : W → Own → Prop} {D : DEn} {a b c e : Expr} {rest : List Stmt} {st : Stmt} {pos : Pos} {w w1 w2 : W}
theorem dss_sub {O' : Own} (q : Les O' O) (h : DSs X τ O' rest D) : DSs X τ O rest D := ⟨fun σ Hr H E hE hS hD => h σ Hr H E hE (hS.sub q) hD⟩
/-- what comes, with less owned -/
def sb (P : W → Own → Prop) : W → Own → Prop := fun w O => ∃ O', Les O' O ∧ P w O'
theorem po_sb {K : PySem.W.Frag} {Hr : Hp} {v : V} {H : Hp} (h : PO K Hr (sb P) v H) : PO K Hr P v H := by
  obtain ⟨w, O', Hr', ⟨O2, q, h⟩, e, s, k⟩ := h
  exact ⟨w, O2, Hr', h, e, s.sub q, k⟩
theorem de_sb (h : DE X τ O e (sb P)) : DE X τ O e P := ⟨fun σ Hr H Q hE hS hQ => h σ Hr H Q hE hS fun v H' q => hQ v H' (po_sb q)⟩
def sbT (R : Tau → Own → Prop) : Tau → Own → Prop := fun τ O => ∃ O', Les O' O ∧ R τ O'
theorem ds_sb (h : DS X τ O st { D with nx := sbT D.nx }) : DS X τ O st D := ⟨fun σ Hr H E hE hS hD => h σ Hr H E hE hS
  ⟨fun σ' H' ⟨τ', O', Hr', ⟨O2, q, p⟩, e, s, k⟩ => hD.nx σ' H' ⟨τ', O2, Hr', p, e, s.sub q, k⟩, hD.rt, hD.bk, hD.ct⟩⟩
/-! ### lists of references -/
/-- an item of a list that holds references -/
theorem ix_r {p : Addr} (j : Nat) {us : List V} {i : Int} {u : V} (hj : O[j]? = some (p, .o (.lst us))) (g : atI us i = some u) (h : P (.r u) O) : IxD X (.r (.ref p)) (.d (.int i)) O P :=
  ixd_of ix_list fun v1 v2 Hr H Q hS h1 h2 hQ => by
    cases h1
    cases h2
    have e1 : H p = some (.lst us) := hS.cell hj
    exact ⟨_, _, _, u, rfl, rfl, SqL.of e1, g, hQ _ _ (po_here h hS rfl)⟩
theorem c_lenO {p : Addr} (j : Nat) {us : List V} (hj : O[j]? = some (p, .o (.lst us))) (h : P (.d (.int us.length)) O) : CallD X (.builtin "len") [.r (.ref p)] O P :=
  calld_of call_len_seq fun vs Hr H Q hS h1 hQ => by
    cases h1 with
    | cons k1 k2 =>
      cases k2
      cases k1
      have e1 : H p = some (.lst us) := hS.cell hj
      exact ⟨_, _, rfl, .inl (SqL.of e1), hQ _ _ (po_here h hS (.int _))⟩
/-- o[i] = e, a list of references -/
theorem ds_subR {o i : Expr} {pos' : Pos} (h : DE X τ O e fun w O1 => DE X τ O1 o fun wo O2 => DE X τ O2 i fun wi O3 =>
      ∃ (p : Addr) (j : Nat) (us : List V) (k : Int) (n : Nat) (u : V), w = .r u ∧ wo = .r (.ref p) ∧ wi = .d (.int k) ∧ O3[j]? = some (p, .o (.lst us)) ∧ ixN us.length k = some n ∧ D.nx τ (O3.set j (p, .o (.lst (us.set n u)))))
    (hs : swapsWithSole [.Subscript o i pos'] e pos.line X.env = pure false := by rfl) (hw : swappedStores [.Subscript o i pos'] e X.env = pure none := by rfl)
    (h1 : (assignEach [.Subscript o i pos'] X.env).map (·.2) = [assign (.Subscript o i pos') X.env] := by rfl)
    (ha : ∀ v, assign (.Subscript o i pos') X.env v = (do
      let ov ← holding [v] (eval o X.env)
      let iv ← holding [v, ov] (eval i X.env)
      standAt pos'
      holding [v, ov, iv] (setItem ov iv v)
      release [v, ov, iv] []) := by intro _; rfl) : DS X τ O (.Assign [.Subscript o i pos'] e pos) D := by
  refine ⟨?_⟩
  intro σ Hr H E hE hS hD pins s I
  refine (ps_asg pe_te (pg_sub pe_te pe_te set_list ha) hs hw h1).run pins s σ H E I ?_
  refine h σ Hr H _ hE hS fun v1 H1 ⟨w1, O1, Hr1, h1, e1, s1, k1⟩ => ?_
  refine h1 σ Hr1 H1 _ (hE.mono e1) s1 fun v2 H2 ⟨w2, O2, Hr2, h2, e2, s2, k2⟩ => ?_
  refine h2 σ Hr2 H2 _ (hE.mono (e1.trans e2)) s2 fun v3 H3 ⟨w3, O3, Hr3, ⟨p, j, us, k, n, u, q1, q2, q3, hj, hn, hx⟩, e3, s3, k3⟩ => ?_
  subst q1 q2 q3
  cases k1
  cases k2
  cases k3
  have u1 : H3 p = some (.lst us) := s3.cell hj
  exact ⟨p, us, k, n, rfl, rfl, u1, hn, hD.nx _ _ ⟨_, _, Hr3, hx, (e1.trans e2).trans e3, s3.put hj (c' := .o (.lst (us.set n v1))) upd_same, hE.mono ((e1.trans e2).trans e3)⟩⟩
/-- d[k], a dict of references -/
theorem de_rget (hu : X.A.units + 1 < cLine) (h : DE X τ O a fun w1 O1 => DE X τ O1 b fun w2 O2 => ∃ (p : Addr) (j : Nat) (kvs : List (Key × V)) (k : Key) (u : V), w1 = .r (.ref p) ∧ O2[j]? = some (p, .o (.dK kvs)) ∧ w2 = .d (keyD k) ∧ valV kvs k = some u ∧ P (.r u) O2) (hs : NoSl b := by exact fun _ _ => rfl) : DE X τ O (.Subscript a b pos) P := by
  refine ⟨?_⟩
  intro σ Hr H Q hE hS hQ pins s I
  refine (pe_dget hu pe_te pe_te hs).run pins s σ H Q I ?_
  refine h σ Hr H _ hE hS fun x H1 ⟨w1, O1, Hr1, h1, e1, s1, k1⟩ => ?_
  refine h1 σ Hr1 H1 _ (hE.mono e1) s1 fun y H2 ⟨w2, O2, Hr2, ⟨p, j, kvs, k, u, hp, hj, hw, hv, hP⟩, e2, s2, k2⟩ => ?_
  subst hp hw
  cases k1
  obtain rfl := keyD_v k2
  have u1 : H2 p = some (.dK kvs) := s2.cell hj
  exact ⟨p, u, rfl, by rw [← hv]; exact DGet.k u1, hQ _ _ ⟨.r u, O2, Hr2, hP, e1.trans e2, s2, rfl⟩⟩
/-! ### dict displays -/
def DPs (X : Cx) (τ : Tau) : Own → List (Option Expr) → List Expr → (List (W × W) → Own → Prop) → Prop
  | O, some k :: ks, v :: vs, P => DE X τ O k fun wk O1 => DE X τ O1 v fun wv O2 => DPs X τ O2 ks vs fun ps O3 => P ((wk, wv) :: ps) O3
  | O, _, _, P => P [] O
def trs (X : Cx) : List (Option Expr) → List Expr → List (TE × TE)
  | some k :: ks, v :: vs => (te X k, te X v) :: trs X ks vs
  | _, _ => []
inductive WPs (K : PySem.W.Frag) (Hr : Hp) : List (V × V) → List (W × W) → Prop
  | nil : WPs K Hr [] []
  | cons {v u : V} {w z : W} {vs : List (V × V)} {ws : List (W × W)} : WOk K Hr v w → WOk K Hr u z → WPs K Hr vs ws → WPs K Hr ((v, u) :: vs) ((w, z) :: ws)
theorem dps_run {X : Cx} {τ : Tau} : ∀ (ks : List (Option Expr)) (vs : List Expr) {O : Own} {P : List (W × W) → Own → Prop} {σ : L2.St} {Hr H : Hp} {Q : List (V × V) → Hp → Prop}, DPs X τ O ks vs P → En X.K Hr σ τ → Sep X.K Hr O H →
    (∀ ps H' ws O' Hr', P ws O' → Same Hr Hr' → Sep X.K Hr' O' H' → WPs X.K Hr' ps ws → Q ps H') → tPairs (trs X ks vs) σ H Q
  | some k :: ks, v :: vs, O, P, σ, Hr, H, Q, h, hE, hS, hQ => by
    rw [DPs] at h
    refine h σ Hr H _ hE hS fun x H1 ⟨w1, O1, Hr1, h1, e1, s1, k1⟩ => ?_
    refine h1 σ Hr1 H1 _ (hE.mono e1) s1 fun y H2 ⟨w2, O2, Hr2, h2, e2, s2, k2⟩ => ?_
    refine dps_run ks vs h2 (hE.mono (e1.trans e2)) s2 fun ps H' ws O' Hr' p e s q => hQ _ _ _ _ Hr' p ((e1.trans e2).trans e) s (.cons (k1.mono (e2.trans e)) (k2.mono e) q)
  | [], vs, O, P, σ, Hr, H, Q, h, hE, hS, hQ => by
    have h' : P [] O := by cases vs <;> exact h
    exact hQ [] H [] O Hr h' (Same.refl _) hS .nil
  | none :: ks, vs, O, P, σ, Hr, H, Q, h, hE, hS, hQ => by
    have h' : P [] O := by cases vs <;> exact h
    have e : trs X (none :: ks) vs = [] := by cases vs <;> rfl
    rw [e]
    exact hQ [] H [] O Hr h' (Same.refl _) hS .nil
  | some k :: ks, [], O, P, σ, Hr, H, Q, h, hE, hS, hQ => by
    exact hQ [] H [] O Hr h (Same.refl _) hS .nil
theorem pps_trs {X : Cx} {pos : Pos} : ∀ (ks : List (Option Expr)) (vs : List Expr), ks.all (·.isSome) = true → ks.length = vs.length → PPs X pos ks vs (trs X ks vs)
  | [], [], _, _ => pps_nil
  | some k :: ks, v :: vs, h, hl => pps_cons pe_te pe_te (pps_trs ks vs (by simpa using h) (by simpa using hl))
  | none :: _, _, h, _ => by simp at h
  | [], _ :: _, _, h => by simp at h
  | some _ :: _, [], _, h => by simp at h
theorem wps_refs {K : PySem.W.Frag} {Hr : Hp} : ∀ {us : List (Key × V)} {ps : List (V × V)}, WPs K Hr ps (us.map fun p => (W.d (keyD p.1), W.r p.2)) → ps = us.map fun kv => (kV kv.1, kv.2)
  | [], _, h => by cases h; rfl
  | u :: us, _, h => by
    cases h with
    | cons a b c =>
      rw [wps_refs (us := us) c, keyD_v a]
      cases b
      rfl
/-- {k: v, ..}, the values references: a new dict, owned -/
theorem de_dispR {keys : List (Option Expr)} {values : List Expr}
    (h : ∀ p, DPs X τ ((p, .o (.dK [])) :: O) keys values fun ws O2 => ∃ (us : List (Key × V)) (j : Nat), ws = (us.map fun q => (W.d (keyD q.1), W.r q.2)) ∧ us.length ≤ 15 ∧ O2[j]? = some (p, .o (.dK [])) ∧ P (.r (.ref p)) (O2.set j (p, .o (.dK (mergeK [] us)))))
    (hall : keys.all (·.isSome) = true := by rfl) (hl : keys.length = values.length := by rfl) (h0 : keys ≠ [] := by exact nofun) (h15 : keys.length ≤ 15 := by decide) : DE X τ O (.Dict keys values pos) P := by
  refine ⟨?_⟩
  intro σ Hr H Q hE hS hQ pins s I
  refine (pe_disp (pps_trs keys values hall hl) hall hl h0 h15).run pins s σ H Q I ?_
  intro p hp
  refine dps_run keys values (h p) hE (hS.newOwn (c := .o (.dK [])) hp upd_same) fun ps H' ws O' Hr' ⟨us, j, hw, hz, hj, hP⟩ e s' q => ?_
  subst hw
  have u1 : H' p = some (.dK []) := s'.cell hj
  exact ⟨u1, us, wps_refs q, hz, hQ _ _ ⟨_, _, Hr', hP, e, s'.put hj (c' := .o (.dK (mergeK [] us))) upd_same, rfl⟩⟩
end
end DL

set_option Elab.async false
set_option linter.all false
set_option maxRecDepth 100000
set_option maxHeartbeats 2000000
namespace DL
open PySem PySem.Spec PyProof.Rows L2

/-! ### exceptions: what is owned keeps in mind what stood when the try began -/
def stampC (Hr0 : Hp) (c : Cell) : XC where
  ok K Hr H p := CellOk K Hr H p c ∧ Same Hr0 Hr
  mono e h := ⟨h.1.mono e, h.2.trans e⟩
  some_ h := h.1.some
  heap h e := ⟨h.1.heap e, h.2⟩
section
variable {K : PySem.W.Frag} {Hr Hr0 H : Hp} {O O' : Own} {p : Addr} {c c' : Cell} {j : Nat}
theorem sep_swap (S : Sep K Hr O H) (hj : O[j]? = some (p, c)) (hc : CellOk K Hr H p c') : Sep K Hr (O.set j (p, c')) H := by
  obtain ⟨o, ho⟩ := (S.cell hj).some
  have e : upd H p o = H := by
    funext a
    by_cases q : a = p
    · subst q
      rw [upd_same, ho]
    · rw [upd_ne q]
  have := S.put (o := o) (c' := c') hj (by rw [e]; exact hc)
  rw [e] at this
  exact this
theorem sep_stamp (S : Sep K Hr O H) (hj : O[j]? = some (p, c)) : Sep K Hr (O.set j (p, .x (stampC Hr c))) H :=
  sep_swap S hj ⟨S.cell hj, Same.refl _⟩
theorem sep_unstamp (S : Sep K Hr O H) (hj : O[j]? = some (p, .x (stampC Hr0 c))) : Same Hr0 Hr ∧ Sep K Hr (O.set j (p, c)) H :=
  ⟨(S.cell hj).2, sep_swap S hj (S.cell hj).1⟩
/-- the stamp is taken off -/
def Unst (p : Addr) (r : XC) (c : Cell) (O O' : Own) : Prop := ∃ i, O[i]? = some (p, .x r) ∧ O' = O.set i (p, c)
theorem unst_back (hj : O[j]? = some (p, c)) (r : XC) : Unst p r c (O.set j (p, .x r)) O := by
  have hl := (List.getElem?_eq_some_iff.mp hj).1
  refine ⟨j, by rw [List.getElem?_set, if_pos rfl, if_pos hl], ?_⟩
  rw [List.set_set]
  apply List.ext_getElem?
  intro i
  rw [List.getElem?_set]
  split
  · rename_i q
    subst q
    first | exact hj | (rw [if_pos hl]; exact hj)
  · rfl
theorem unst_sep (S : Sep K Hr O H) (u : Unst p (stampC Hr0 c) c O O') : Same Hr0 Hr ∧ Sep K Hr O' H := by
  obtain ⟨i, hi, rfl⟩ := u
  exact sep_unstamp S hi
theorem En.unset {σ : L2.St} {τ : Tau} (h : En K Hr σ τ) (i : Nat) : En K Hr (σ.set i none) (τ.set i none) := by
  refine ⟨by rw [List.length_set, List.length_set]; exact h.len, fun k w q => ?_⟩
  rw [List.getElem?_set] at q
  rw [List.getElem?_set]
  by_cases e : i = k
  · subst e
    rw [if_pos rfl] at q
    split at q <;> cases q
  · rw [if_neg e] at q
    rw [if_neg e]
    exact h.at_ k w q
end
/-- what leaves the def by an exception, at the level of data -/
def RaF (X : Cx) (PX : Value → Own → Prop) : Prop := ∃ W : WX, Takes X W ∧ ∀ (cls : Value) (σ : L2.St) (Hr H : Hp) (O : Own), Sep X.K Hr O H → PX cls O → W cls none σ H
/-- what reaches the clauses of a try -/
def RaT (X : Cx) (PT : Tau → Value → Own → Prop) : Prop := ∃ W : WX, Takes X W ∧ ∀ (cls : Value) (σ : L2.St) (τ : Tau) (Hr H : Hp) (O : Own), En X.K Hr σ τ → Sep X.K Hr O H → PT τ cls O → W cls none σ H
theorem RaF.t {X : Cx} {PX : Value → Own → Prop} (h : RaF X PX) : RaT X fun _ cls O => PX cls O := by
  obtain ⟨W, t, q⟩ := h
  exact ⟨W, t, fun cls σ τ Hr H O _ S p => q cls σ Hr H O S p⟩
theorem RaF.les {X : Cx} {PX : Value → Own → Prop} (h : RaF X PX) : RaF X fun cls O' => ∃ O2, Les O2 O' ∧ PX cls O2 := by
  obtain ⟨W, t, q⟩ := h
  exact ⟨W, t, fun cls σ Hr H O S ⟨O2, l, p⟩ => q cls σ Hr H O2 (S.sub l) p⟩
/-- an exception class of the program's own, by name -/
structure ExcN (K : PySem.W.Frag) (mg : Str → Option Value) (x : Str) (C : Addr) : Prop where
  ex : ∃ bmB B newId initId, ExcBaseFacts B newId initId bmB ∧ PySem.W.excIn K C bmB newId = true
  mg_ : mg x = some (.ref C)
  kp : PySem.W.keepIn K (.ref C) = true
  sb : PySem.W.subIn K (.ref C) (.type "BaseException") = some true
  ty : PySem.W.typeIn K (.ref C) = some (.type "type")
abbrev PreX := List W → Own → (W → Own → Prop) → (Value → Own → Prop) → Prop
def spX (K : PySem.W.Frag) (n : Nat) (pre : PreX) : Sp := fun vs H Q E => ∃ (ws : List W) (O : Own) (Hr : Hp) (P : W → Own → Prop) (PX : Value → Own → Prop), Sep K Hr O H ∧ WOks K Hr vs ws ∧ ws.length = n ∧ pre ws O P PX ∧ (∀ v H', PO K Hr P v H' → Q v H') ∧ ∀ cls Hr' O' H', PX cls O' → Sep K Hr' O' H' → E cls none H'
section
variable {P : Program} {w : World} {K : PySem.W.Frag} {mg : Str → Option Value} {base : Heap}
/-- a def that may raise keeps its promise, by its body -/
theorem fn_dlX {x qual : Str} {st : Stmt} {f : Addr} {fd : FuncData} {N ps : List Str} {k : Nat} {pre : PreX} (F : Fun K x qual st f fd) (S : FnScope N ps (defScope st))
    (hbody : ∀ (cdv : Value) (A : Around) (outer : List Env) (s : Shared) (H : Hp) (E : XK) (xe : Value → Shared → Prop), Room k (A.deeper (envOfC qual (defScope st) s.heap.objs.size f cdv)) → ∀ (ws : List W) (O : Own) (Q : W → Own → Prop) (PX : Value → Own → Prop), ws.length = ps.length → pre ws O Q PX → RaF ((cxOf CX0 P w K mg base N qual (defScope st) f cdv A outer s H E).wish xe) PX →
      PassesOwn (model P w) (A.deeper (envOfC qual (defScope st) s.heap.objs.size f cdv)) (envOfC qual (defScope st) s.heap.objs.size f cdv) xe →
      DSs ((cxOf CX0 P w K mg base N qual (defScope st) f cdv A outer s H E).wish xe) (ws.map some ++ List.replicate (N.length - ws.length) none) O (defBody st) { nx := fun _ O' => Q (.d .none) O', rt := Q }) :
    FnOk P w K mg base (CX P w) (k + 1) f fd ps (spX K ps.length pre) := by
  refine F.okX S (fun vs H Q E ⟨ws, O, Hr, P, PX, _, hw, hl, _⟩ => hw.len.trans hl) (fun cdv A outer s H vs Q E hr ⟨ws, O, Hr, PP, PX, hS, hw, hl, hp, hq, hx⟩ => ⟨tss _ _, pss_tss, ?_⟩)
  refine hbody cdv A outer s H E (cxOf (CX P w) P w K mg base N qual (defScope st) f cdv A outer s H E).xe hr ws O PP PX hl hp ⟨fun cls d σ H => E cls d H, takes_of (X := cxOf (CX P w) P w K mg base N qual (defScope st) f cdv A outer s H E) rfl rfl rfl rfl, fun cls σ Hr' H' O' s' p => hx cls Hr' O' H' p s'⟩ PassesOwn.leaving (L2.start N vs) Hr H _ (en_start hw) hS
    ⟨fun σ H' ⟨τ', O', Hr', p, e, s', k⟩ => hq _ _ ⟨_, O', Hr', p, e, s', .non⟩, hq, fun _ _ ⟨_, _, _, p, _⟩ => p.elim, fun _ _ ⟨_, _, _, p, _⟩ => p.elim⟩
structure DefX (P : Program) (w : World) (K : PySem.W.Frag) (mg : Str → Option Value) (base : Heap) (k : Nat) (x : Str) (n : Nat) (pre : PreX) : Prop where
  ex : ∃ (f : Addr) (fd : FuncData) (ps : List Str), FnOk P w K mg base (CX P w) k f fd ps (spX K n pre) ∧ mg x = some (.ref f) ∧ PySem.W.keepIn K (.ref f) = true ∧ Binds K fd ps []
theorem Binds.defX {k n : Nat} {x : Str} {f : Addr} {fd : FuncData} {ps : List Str} {pre : PreX} (F : FnOk P w K mg base (CX P w) k f fd ps (spX K n pre)) (h1 : mg x = some (.ref f)) (h2 : PySem.W.keepIn K (.ref f) = true) (h3 : Binds K fd ps []) : DefX P w K mg base k x n pre := ⟨f, fd, ps, F, h1, h2, h3⟩
end
section
variable {X : Cx} {τ : Tau} {O : Own} {P : W → Own → Prop} {PX : Value → Own → Prop} {PT : Tau → Value → Own → Prop} {pos pos' p p2 np : Pos} {x m n : Str} {e : Expr} {es : List Expr} {k nn j : Nat} {pre : PreX} {D : DEn}
theorem de_callX (F : DefX X.prog X.w X.K X.mg X.base k x nn pre) (hr : Room k X.A) (T : RaF X PX) (h : DA X τ O (e :: es) fun ws O1 => ws.length = nn ∧ pre ws O1 P PX) (hg : Gl X x := by rfl) (hdb : (x == ("__debug__" : Str)) = false := by decide)
    (he : starEach (e :: es) X.env = (false, eval e X.env) :: starEach es X.env := by rfl) (hpl : (backTo pos (starEach es X.env)).any (·.1) = false := by rfl) : DE X τ O (.Call (.Name x p) (e :: es) [] pos) P := by
  refine ⟨?_⟩
  intro σ Hr H Q hE hS hQ pins s I
  obtain ⟨f, fd, ps, F, hm, hk, hb⟩ := F.ex
  obtain ⟨W, tk, hw⟩ := T
  refine (pe_callS F hr hg hm hk hb (fun σ => passAt tk σ) pa_ta hdb he hpl).run pins s σ H Q I ?_
  refine h σ Hr H _ hE hS fun vs H1 ⟨ws, O1, Hr1, ⟨hl, hp⟩, e1, s1, k1⟩ => ?_
  exact ⟨ws, O1, Hr1, P, PX, s1, k1, hl, hp, fun v H' q => hQ v H' (po_to e1 q), fun cls Hr' O' H' p s' => hw cls σ Hr' H' O' s' p⟩
/-- such a call within a try -/
theorem de_callT (F : DefX X.prog X.w X.K X.mg X.base k x nn pre) (hr : Room k X.A) (T : RaT X PT) (h : DA X τ O (e :: es) fun ws O1 => ws.length = nn ∧ ∃ (j : Nat) (p : Addr) (c : Cell), O1[j]? = some (p, c) ∧ ∀ r : XC, pre ws (O1.set j (p, .x r)) (fun w O2 => ∃ O3, Unst p r c O2 O3 ∧ P w O3) (fun cls O2 => ∃ O3, Unst p r c O2 O3 ∧ PT τ cls O3)) (hg : Gl X x := by rfl) (hdb : (x == ("__debug__" : Str)) = false := by decide)
    (he : starEach (e :: es) X.env = (false, eval e X.env) :: starEach es X.env := by rfl) (hpl : (backTo pos (starEach es X.env)).any (·.1) = false := by rfl) : DE X τ O (.Call (.Name x p) (e :: es) [] pos) P := by
  refine ⟨?_⟩
  intro σ Hr H Q hE hS hQ pins s I
  obtain ⟨f, fd, ps, F, hm, hk, hb⟩ := F.ex
  obtain ⟨W, tk, hw⟩ := T
  refine (pe_callS F hr hg hm hk hb (fun σ => passAt tk σ) pa_ta hdb he hpl).run pins s σ H Q I ?_
  refine h σ Hr H _ hE hS fun vs H1 ⟨ws, O1, Hr1, ⟨hl, j, p, c, hj, hp⟩, e1, s1, k1⟩ => ?_
  refine ⟨ws, _, Hr1, _, _, sep_stamp s1 hj, k1, hl, hp _, ?_, ?_⟩
  · rintro v H' ⟨w, O2, Hr2, ⟨O3, hu, hP⟩, e2, s2, k2⟩
    exact hQ v H' (po_to e1 ⟨w, O3, Hr2, hP, e2, (unst_sep s2 hu).2, k2⟩)
  · rintro cls Hr' O' H' ⟨O3, hu, hP⟩ s'
    obtain ⟨e2, s2⟩ := unst_sep s' hu
    exact hw cls σ τ Hr' H' O3 ((hE.mono e1).mono e2) s2 hP
theorem ds_raise {C : Addr} {jj : Nat} {cpos : Pos} (T : RaT X PT) (E : ExcN X.K X.mg x C) (h : PT τ (.ref C) O) (hc : X.calm = true := by rfl) (hg : Gl X x := by rfl) (hd : (x == ("__debug__" : Str)) = false := by decide) :
    DS X τ O (.Raise (some (.Call (.Name x p) [.Constant (.str m) jj p2] [] cpos)) none pos) D := by
  refine ⟨fun σ Hr H EE hE hS hD pins s I => ?_⟩
  obtain ⟨W, tk, hw⟩ := T
  obtain ⟨bmB, B, newId, initId, hF, hx⟩ := E.ex
  exact (ps_raise hc tk (pmk_own hF hx E.mg_ E.kp (raises_own E.sb E.ty) hg hd)).run pins s σ H EE I (hw _ σ τ Hr H O hE hS h)
theorem ds_raiseL {C : Addr} {jj : Nat} {cpos : Pos} {O2 : Own} (T : RaT X PT) (E : ExcN X.K X.mg x C) (q : Les O2 O) (h : PT τ (.ref C) O2) (hc : X.calm = true := by rfl) (hg : Gl X x := by rfl) (hd : (x == ("__debug__" : Str)) = false := by decide) :
    DS X τ O (.Raise (some (.Call (.Name x p) [.Constant (.str m) jj p2] [] cpos)) none pos) D :=
  ⟨fun σ Hr H EE hE hS hD => (ds_raise T E h hc hg hd) σ Hr H EE hE (hS.sub q) hD⟩
/-- try: .. except X as n: suite -/
theorem ds_try {i : Nat} {body suite : List Stmt} {b₀ : Stmt} {cl : Value} {q : Addr} {c : Cell} (PT : XC → Tau → Value → Own → Prop) (hj : O[j]? = some (q, c)) (hN : X.N.Nodup) (hi : X.N[i]? = some n) (hcl : Names X x cl)
    (hbody : ∀ (r : XC) (pn : List (Addr × Obj)) (xe : Value → Shared → Prop), RaT (X.tr pn xe) (PT r) → PassesOwn (model X.prog X.w) X.A X.env xe →
      DSs (X.tr pn xe) τ (O.set j (q, .x r)) body { nx := fun τ' O' => ∃ O3, Unst q r c O' O3 ∧ D.nx τ' O3, rt := fun w O' => ∃ O3, Unst q r c O' O3 ∧ D.rt w O3, bk := fun τ' O' => ∃ O3, Unst q r c O' O3 ∧ D.bk τ' O3, ct := fun τ' O' => ∃ O3, Unst q r c O' O3 ∧ D.ct τ' O3 })
    (hsuite : ∀ (r : XC) (τ' : Tau) (cls : Value) (O' : Own), PT r τ' cls O' → PySem.W.exmOne X.K cls cl = some true ∧ ∃ O3, Unst q r c O' O3 ∧ ∀ (a : Addr) (oe : Obj) (pn : List (Addr × Obj)), Zc cls none oe → (∃ vs, oe.data = Data.fields vs) →
      DSs (X.suite a ((a, oe) :: pn)) (τ'.set i (some (.r (.ref a)))) O3 (b₀ :: suite) { nx := fun τ2 O2 => D.nx (τ2.set i none) O2, rt := D.rt, bk := fun τ2 O2 => D.bk (τ2.set i none) O2, ct := fun τ2 O2 => D.ct (τ2.set i none) O2 })
    (hs : X.stack = X.env :: X.outer := by rfl) (hf : X.env.frame = some X.env.locals := by rfl) (hk : X.env.kindOf n = some NameKind.local := by rfl) :
    DS X τ O (.Try body [.ExceptHandler (some (.Name x np)) (some n) (b₀ :: suite) pos'] [] [] pos) D := by
  refine ⟨fun σ Hr H E hE hS hD pins s I => ?_⟩
  refine (ps_try_as (i := i) (c := cl) (tb := fun W D σ H => ∀ (pn : List (Addr × Obj)) (xe : Value → Shared → Prop), Takes (X.tr pn xe) W → PassesOwn (model X.prog X.w) X.A X.env xe → tss (X.tr pn xe) body D σ H)
    (ts := fun a cls d D σ H => ∀ (oe : Obj) (pn : List (Addr × Obj)), Zc cls d oe → (∃ vs, oe.data = Data.fields vs) → tss (X.suite a ((a, oe) :: pn)) (b₀ :: suite) D σ H) hs hf hN hi hk hcl takes0
    (fun W pn xe tk ps => ⟨fun pins s σ H D I h => h pn xe tk ps pins s I⟩) (fun a oe cls d pn hz hv => ⟨fun pins s σ H D I h => h oe pn hz hv pins s I⟩)).run pins s σ H E I ?_
  intro pn xe tk ps
  refine hbody (stampC Hr c) pn xe ⟨_, tk, fun cls σ' τ' Hr' H' O' hE' hS' hp => ?_⟩ ps σ Hr H E hE (sep_stamp hS hj) ⟨?_, ?_, ?_, ?_⟩
  · obtain ⟨hm, O3, hu, hd⟩ := hsuite _ _ _ _ hp
    obtain ⟨e2, s2⟩ := unst_sep hS' hu
    refine ⟨true, hm, fun _ a ha oe pn hz hv => ?_, fun z => by cases z⟩
    refine hd a oe pn hz hv _ Hr' H' _ (hE'.set i rfl) s2 ⟨?_, ?_, ?_, ?_⟩
    · rintro σ2 H2 ⟨τ2, O2, Hr2, p, e, s', k⟩
      exact hD.nx _ _ ⟨_, O2, Hr2, p, e2.trans e, s', k.unset i⟩
    · rintro v H2 ⟨w, O2, Hr2, p, e, s', k⟩
      exact hD.rt _ _ ⟨_, O2, Hr2, p, e2.trans e, s', k⟩
    · rintro σ2 H2 ⟨τ2, O2, Hr2, p, e, s', k⟩
      exact hD.bk _ _ ⟨_, O2, Hr2, p, e2.trans e, s', k.unset i⟩
    · rintro σ2 H2 ⟨τ2, O2, Hr2, p, e, s', k⟩
      exact hD.ct _ _ ⟨_, O2, Hr2, p, e2.trans e, s', k.unset i⟩
  · rintro σ2 H2 ⟨τ2, O2, Hr2, ⟨O3, hu, p⟩, e, s', k⟩
    exact hD.nx _ _ ⟨_, O3, Hr2, p, e, (unst_sep s' hu).2, k⟩
  · rintro v H2 ⟨w, O2, Hr2, ⟨O3, hu, p⟩, e, s', k⟩
    exact hD.rt _ _ ⟨_, O3, Hr2, p, e, (unst_sep s' hu).2, k⟩
  · rintro σ2 H2 ⟨τ2, O2, Hr2, ⟨O3, hu, p⟩, e, s', k⟩
    exact hD.bk _ _ ⟨_, O3, Hr2, p, e, (unst_sep s' hu).2, k⟩
  · rintro σ2 H2 ⟨τ2, O2, Hr2, ⟨O3, hu, p⟩, e, s', k⟩
    exact hD.ct _ _ ⟨_, O3, Hr2, p, e, (unst_sep s' hu).2, k⟩
/-- isinstance(e, T) of what was caught -/
theorem c_isE {a C : Addr} {oe : Obj} {pn : List (Addr × Obj)} {cv : V} {u : Value} {b : Bool} (EC : ExcC X.K C) (hz : Zc (.ref C) none oe) (hv : ∃ vs, oe.data = Data.fields vs) (hc : ∀ y, RelV cv y → y = u) (hb : PySem.W.kitOne X.K (.ref C) u = some b) (h : P (.d (.bool b)) O) :
    CallD (X.suite a ((a, oe) :: pn)) (.builtin "isinstance") [.r (.ref a), .r cv] O P :=
  calld_of (call_isE EC hz hv) fun vs Hr H Q hS h1 hQ => by
    cases h1 with
    | cons k1 k2 =>
      cases k2 with
      | cons k3 k4 =>
        cases k4
        cases k3
        cases k1
        exact ⟨cv, u, b, rfl, hc, hb, hQ _ _ (po_here h hS (.bl _))⟩
end
end DL

set_option Elab.async false
set_option linter.all false
set_option maxRecDepth 100000
set_option maxHeartbeats 2000000
namespace DL
open PySem PySem.Spec PyProof.Rows L2
theorem kit_refF {K : PySem.W.Frag} {C D : Addr} (h0 : PySem.W.subIn K (.ref C) (.ref C) = some true) (hdct : PySem.W.hasDictIn K D = true) (ht : PySem.W.typeIn K (.ref D) = some (.type "type")) (h4 : PySem.W.subIn K (.ref C) (.ref D) = some false) : PySem.W.kitOne K (.ref C) (.ref D) = some false := by
  obtain ⟨cd, hc, _⟩ := PySem.W.any_some hdct
  have ne : ((.ref C : Value) == .ref D) = false := by
    refine Bool.eq_false_iff.mpr fun q => ?_
    have e : C = D := Value.ref.inj (beq_iff_eq.mp q)
    subst e
    rw [h0] at h4
    cases h4
  have e2 : ((PySem.W.clsIn K D).isSome && PySem.W.typeIn K (.ref D) == some (.type "type")) = true := by rw [hc, ht] <;> rfl
  unfold PySem.W.kitOne
  rw [if_neg (by rw [ne]; exact Bool.false_ne_true)]
  show (if ((PySem.W.clsIn K D).isSome && PySem.W.typeIn K (.ref D) == some (.type "type")) = true then PySem.W.subIn K (.ref C) (.ref D) else none) = some false
  rw [if_pos e2]
  exact h4
theorem kit_tyT {K : PySem.W.Frag} {C : Addr} {T : String} (hk : PySem.W.kitMeta T = true) (h : PySem.W.subIn K (.ref C) (.type T) = some true) : PySem.W.kitOne K (.ref C) (.type T) = some true := by
  unfold PySem.W.kitOne
  rw [if_neg (by intro q; exact nomatch (beq_iff_eq.mp q))]
  show (if PySem.W.kitMeta T = true then PySem.W.subIn K (.ref C) (.type T) else none) = some true
  rw [if_pos hk]
  exact h
end DL

set_option Elab.async false
set_option linter.all false
set_option maxRecDepth 100000
set_option maxHeartbeats 2000000
/-! accumulate(xs) of itertools: made, drawn, summed -/
namespace AcX
open PySem PySem.Spec PyProof.Rows
abbrev aN : String := "itertools.accumulate"
theorem mro_ac : mroOf (.type aN) = pure [.type aN, .type "object"] := by rw [mroOf_type]; kernel_rfl
theorem new_ac : typeLookup (.type aN) "__new__" = pure (some (.builtin "itertools.accumulate.__new__")) := by rw [typeLookup_type, builtinLookup_eq_fast]; kernel_rfl
theorem init_ac : Slot aN "__init__" "object.__init__" :=
  .of (owner := "object") (n := "__init__") (by rw [typeLookup_type, builtinLookup_eq_fast]; kernel_rfl) (by decide +kernel) (by decide +kernel) (by decide +kernel) (by first | exact .inl (by decide +kernel) | exact .inr (by decide +kernel)) (by rw [isSubtype_type]; kernel_rfl)
theorem sub_ac : isSubtype (.type aN) (.type aN) = pure true := by rw [isSubtype_type]; kernel_rfl
theorem called_ac : TypeCalled aN "itertools.accumulate.__new__" "object.__init__" :=
  ⟨by decide +kernel, by decide +kernel, ⟨_, _, mro_ac⟩, madeBy_type mro_ac new_ac (by decide +kernel), by decide +kernel, sub_ac, init_ac⟩
theorem tc_ac (a : Value) : checkTypeCall aN ⟨[a], []⟩ = pure () := by kernel_rfl
theorem nc_ac (a : Value) : checkBuiltinCall "itertools.accumulate.__new__" ⟨[.type aN, a], []⟩ = pure () := by kernel_rfl
theorem entry_ac_new : entryFor table "itertools.accumulate.__new__" = some Builtin.«itertools.accumulate.__new__» := entryFor_of_tree (by kernel_rfl)
theorem slot_ac_iter : Slot aN "__iter__" "itertools.accumulate.__iter__" :=
  .of (owner := aN) (n := "__iter__") (by rw [typeLookup_type, builtinLookup_eq_fast]; kernel_rfl) (by decide +kernel) (by decide +kernel) (by decide +kernel) (by first | exact .inl (by decide +kernel) | exact .inr (by decide +kernel)) sub_ac
theorem slot_ac_next : Slot aN "__next__" "itertools.accumulate.__next__" :=
  .of (owner := aN) (n := "__next__") (by rw [typeLookup_type, builtinLookup_eq_fast]; kernel_rfl) (by decide +kernel) (by decide +kernel) (by decide +kernel) (by first | exact .inl (by decide +kernel) | exact .inr (by decide +kernel)) sub_ac
theorem entry_ac_iter : entryFor table "itertools.accumulate.__iter__" = some Builtin.«dict_keyiterator.__iter__» :=
  entryFor_alias (id' := "dict_keyiterator.__iter__") (by kernel_rfl) (by first | rfl | decide +kernel | (unfold String.splitOn; simp +decide [String.splitOnAux])) (by decide +kernel) (by kernel_rfl)
theorem entry_ac_next : entryFor table "itertools.accumulate.__next__" = some Builtin.«itertools.accumulate.__next__» := entryFor_of_tree (by kernel_rfl)
theorem owner_ac : Manifest.owners.lookup (String.ofList ['e', 't', 'a', 'l', 'u', 'm', 'u', 'c', 'c', 'a', '.', 's', 'l', 'o', 'o', 't', 'r', 'e', 't', 'i'].reverse) = some Manifest.sig_itertools_accumulate := by kernel_rfl
theorem args_ac_iter (a : Value) : argsOk "itertools.accumulate.__iter__" ⟨[a], []⟩ := by
  unfold argsOk; rw [signature?_of (id := "itertools.accumulate.__iter__") (n := ['_', '_', 'r', 'e', 't', 'i', '_', '_']) (o := ['e', 't', 'a', 'l', 'u', 'm', 'u', 'c', 'c', 'a', '.', 's', 'l', 'o', 'o', 't', 'r', 'e', 't', 'i']) (by kernel_rfl) owner_ac]; kernel_rfl
theorem args_ac_next (a : Value) : argsOk "itertools.accumulate.__next__" ⟨[a], []⟩ := by
  unfold argsOk; rw [signature?_of (id := "itertools.accumulate.__next__") (n := ['_', '_', 't', 'x', 'e', 'n', '_', '_']) (o := ['e', 't', 'a', 'l', 'u', 'm', 'u', 'c', 'c', 'a', '.', 's', 'l', 'o', 'o', 't', 'r', 'e', 't', 'i']) (by kernel_rfl) owner_ac]; kernel_rfl
theorem nodict_ac : typeHasDict (.type aN) = false := by decide +kernel
/-- the object: what it draws from, what it has summed up -/
abbrev IsAcc (h : Heap) (m it : Addr) (tot : Value) : Prop := h.get? m = some { cls := .type aN, dict := none, data := .fields #[.ref it, .none, tot, .none], slots := #[] }
theorem named_ac (x : Value) : Builtin.Itertools.itBindNamed "accumulate" ["iterable", "func", "initial"] 1 2 [x] [] = pure [some x, none, none] := by
  first | rfl | kernel_rfl
theorem class_ac (x : Value) : Builtin.Itertools.itClassAndRest "accumulate" ⟨[.type aN, x], []⟩ = pure (.type aN, [x]) := by
  unfold Builtin.Itertools.itClassAndRest
  have e : ("itertools." ++ "accumulate" : String) = aN := by decide +kernel
  simp only [e, isType, sub_ac, pure_bind, Bool.not_true, Bool.false_eq_true, if_false]
section
variable {prog : Program} {w : World} {A : Around} {E : Value → Shared → Prop} {s : Shared}
theorem new_acc (x : Value) : MeetsIn prog w (Builtin.«itertools.accumulate.__new__» ⟨[.type aN, x], []⟩)
    (fun A R s => wpAny (model prog w) A.in1 (pyIter x) (fun itv s1 => R (.ok (.ret (.ref s1.heap.objs.size))) { s1 with heap := s1.heap.push { cls := .type aN, data := .fields #[itv, .none, Builtin.Itertools.itNothing, .none] } }) (fun e s1 => R (.error e) s1) s) :=
  .of_wp fun A R s h => by
    unfold Builtin.«itertools.accumulate.__new__»
    refine wpAny_bind (wpAny_of_eq (class_ac _) ?_)
    try dsimp only
    refine wpAny_bind (wpAny_of_eq (named_ac _) ?_)
    try dsimp only
    refine wpAny_bind ?_
    refine wpAny_mono h (fun itv s1 hR => ?_) fun _ _ z => z
    refine wpAny_bind ?_
    unfold Builtin.Itertools.itNewRecord
    rw [nodict_ac]
    simp only [Bool.not_false, if_true]
    refine wpAny_newObj_type ?_
    exact wpAny_pure ⟨_, rfl, hR⟩
theorem call_acc {x : Value} {Q : Value → Shared → Prop}
    (hx : wpAny (model prog w) A.in1.in1 (pyIter x) (fun itv s1 => ∀ h', h'.get? s1.heap.objs.size = some { cls := .type aN, dict := none, data := .fields #[itv, .none, Builtin.Itertools.itNothing, .none], slots := #[] } → h'.objs.size = s1.heap.objs.size + 1 →
      (∀ c o, s1.heap.get? c = some o → h'.get? c = some o) → Q (.ref s1.heap.objs.size) { s1 with heap := h' }) E s) :
    wpAny (model prog w) A (call (.type aN) [x]) Q E s := by
  refine callType_newIn called_ac (by decide +kernel) (tc_ac _) (nc_ac _) (fun obj => F.args_object_init_2 obj _) entry_ac_new (new_acc x) ?_
  show wpAny (model prog w) A.in1.in1 (pyIter x) _ _ _
  refine wpAny_mono hx (fun itv s1 h => ?_) fun _ _ z => z
  have gm : (s1.heap.push { cls := .type aN, data := .fields #[itv, .none, Builtin.Itertools.itNothing, .none] }).get? s1.heap.objs.size = some { cls := .type aN, dict := none, data := .fields #[itv, .none, Builtin.Itertools.itNothing, .none], slots := #[] } := Heap.get?_push_size _ rfl
  have hq := h _ gm (Heap.size_push ..) fun c o e => Heap.get?_push_of_some _ e
  show _ ∧ _
  exact ⟨⟨_, gm, rfl⟩, hq⟩
theorem raw_item {it l : Addr} {i : Nat} {items} {x : Value} {Q : Value → Shared → Prop} (hit : s.heap.IsListIter it l i) (hl : s.heap.IsList l items) (hx : items[i]? = some x)
    (hQ : ∀ h', h'.IsListIter it l (i + 1) → Heap.SameBut it s.heap h' → Q x { s with heap := h' }) : wpAny (model prog w) A (Builtin.Itertools.itRawNext (.ref it)) Q E s := by
  obtain ⟨o, ho, hc, hd⟩ := id hit
  obtain ⟨ol, hol, _, nl, hdl⟩ := hl
  unfold Builtin.Itertools.itRawNext
  refine wpAny_bind (wpAny_callSpecial?_slot (name := Str.ofString "__next__") hit.typeIs slot_listiter_next (wpAny_call_entry slot_listiter_next hit.typeIs entry_listiter_next ?_ (args_listiter_next _)))
  show wpAny _ _ (field (.ref it) 0 >>= _) _ _ s; refine wpAny_bind (wpAny_field ho hd (x := .ref l) rfl ?_)
  show wpAny _ _ (if (Value.ref l == Value.none) = true then _ else _) _ _ s; rw [if_neg (show ¬ ((Value.ref l == Value.none) = true) from Bool.false_ne_true)]
  show wpAny _ _ (field (.ref it) 1 >>= _) _ _ s; refine wpAny_bind (wpAny_field ho hd (x := .int i 0) rfl ?_)
  show wpAny _ _ (seqItems? (.ref l) >>= _) _ _ s; refine wpAny_bind (wpAny_seqItems hol hdl ?_)
  simp only [Int.toNat_natCast, hx]
  refine wpAny_bind (wpAny_setField ho hd (by simp) (wpAny_pure ⟨x, rfl, wpAny_pure (hQ _ ⟨_, Heap.get?_update_self _ ho (Obj.isFreed_of_fields (Obj.data_mapFields hd _)), (Obj.cls_mapFields ..).trans hc, by rw [Obj.data_mapFields hd]; simp [rawInt]⟩ (Heap.SameBut.update ..))⟩))
theorem raw_end {it l : Addr} {i : Nat} {items} {Q : Value → Shared → Prop} (hh : A.handled = none) (hit : s.heap.IsListIter it l i) (hl : s.heap.IsList l items) (hx : items[i]? = none)
    (hE : ∀ h' e, Heap.ExtBut it s.heap h' → (∃ o, h'.get? e = some o ∧ o.cls = .type "StopIteration") → E (.ref e) { s with heap := h' }) : wpAny (model prog w) A (Builtin.Itertools.itRawNext (.ref it)) Q E s := by
  obtain ⟨o, ho, hc, hd⟩ := id hit
  obtain ⟨ol, hol, _, nl, hdl⟩ := hl
  unfold Builtin.Itertools.itRawNext
  refine wpAny_bind (wpAny_callSpecial?_slot (name := Str.ofString "__next__") hit.typeIs slot_listiter_next (wpAny_call_entry slot_listiter_next hit.typeIs entry_listiter_next ?_ (args_listiter_next _)))
  show wpAny _ _ (field (.ref it) 0 >>= _) _ _ s; refine wpAny_bind (wpAny_field ho hd (x := .ref l) rfl ?_)
  show wpAny _ _ (if (Value.ref l == Value.none) = true then _ else _) _ _ s; rw [if_neg (show ¬ ((Value.ref l == Value.none) = true) from Bool.false_ne_true)]
  show wpAny _ _ (field (.ref it) 1 >>= _) _ _ s; refine wpAny_bind (wpAny_field ho hd (x := .int i 0) rfl ?_)
  show wpAny _ _ (seqItems? (.ref l) >>= _) _ _ s; refine wpAny_bind (wpAny_seqItems hol hdl ?_)
  simp only [Int.toNat_natCast, hx]
  refine wpAny_bind (wpAny_rule (wpAny_bind (wpAny_setField ho hd (by simp) ?_)))
  show wpAny _ _ (newExc (.type "StopIteration") [] >>= _) _ _ _; refine wpAny_bind ?_; simp only [newExc, newTuple]
  refine wpAny_bind (wpAny_newObj_type ?_ (by size_fits)); refine wpAny_bind (m := firstArgMember _ _) (wpAny_of_eq (a := Value.none) (by first | rfl | (simp only [firstArgMember]; rfl)) ?_)
  refine wpAny_newObj_type ?_ (by size_fits); simp only [raiseNew]; refine wpAny_bind (wpAny_handled ?_)
  first | rw [show A.in1.handled = none from hh] | rw [hh]
  refine wpAny_bind (wpAny_pure (wpAny_throw (hE _ _ (((Heap.SameBut.update ..).extBut.push _).push _) ⟨_, Heap.get?_push_size _ rfl, rfl⟩)))
/-- the sum so far, as it stands in the object -/
def TotIs (tot : Value) (i : Nat) (a : Int) : Prop := (i = 0 ∧ tot = Builtin.Itertools.itNothing ∧ a = 0) ∨ ∃ t, tot = .int a t
theorem next_item {m it l : Addr} {i : Nat} {items} {tot : Value} {a b : Int} {tb : Tok} {Q : Value → Shared → Prop} (hm : IsAcc s.heap m it tot) (hit : s.heap.IsListIter it l i) (hl : s.heap.IsList l items) (hx : items[i]? = some (.int b tb)) (hmi : m ≠ it) (hlm : l ≠ m) (hli : l ≠ it) (ht : TotIs tot i a)
    (hQ : ∀ t h' tk, IsAcc h' m it (.int (a + b) t) → h'.IsListIter it l (i + 1) → (∀ c o, c ≠ it → c ≠ m → s.heap.get? c = some o → h'.get? c = some o) → s.toks ≤ tk → Q (.int (a + b) t) { s with heap := h', toks := tk }) :
    wpAny (model prog w) A (Builtin.«itertools.accumulate.__next__» ⟨[.ref m], []⟩) (fun fin s' => ∃ v, fin = .done (.ret v) ∧ Q v s') E s := by
  unfold Builtin.«itertools.accumulate.__next__»
  refine wpAny_bind (wpAny_of_eq (a := ((Value.ref m : Value), ([] : List Value))) (by first | rfl | (simp only [slotArgs]; rfl)) ?_)
  try dsimp only
  refine wpAny_bind (wpAny_field hm rfl (x := Value.none) rfl ?_)
  rw [if_neg (show ¬ ((Value.none != Value.none) = true) by decide)]
  try refine wpAny_bind (wpAny_pure ?_)
  refine wpAny_bind (wpAny_field hm rfl (x := .ref it) rfl ?_)
  refine wpAny_bind (raw_item hit hl hx fun h1 hit1 hs1 => ?_)
  have hm1 : IsAcc h1 m it tot := hs1.extBut _ _ hmi hm
  refine wpAny_bind (wpAny_field hm1 rfl (x := tot) rfl ?_)
  by_cases hz : (tot == Builtin.Itertools.itNothing) = true
  · have ha : a = 0 := by
      rcases ht with ⟨_, _, h⟩ | ⟨t, rfl⟩
      · exact h
      · have e : Value.int a t = Value.int 0 0 := beq_iff_eq.mp hz
        cases e
        rfl
    subst ha
    rw [if_pos hz]
    refine wpAny_bind (wpAny_rule (wpAny_bind (wpAny_setField hm1 rfl (by simp) (wpAny_pure ⟨_, rfl, ?_⟩))))
    have hm2 : IsAcc (h1.update m (Obj.mapFields fun x => x.setIfInBounds 2 (.int b tb))) m it (.int b tb) := Heap.get?_update_self _ hm1 rfl
    rw [Int.zero_add] at hQ
    exact hQ tb _ s.toks hm2 (hit1.at fun o e => (Heap.get?_update_other _ _ hmi).trans e) (fun c o h1 h2 e => (Heap.get?_update_other _ _ (Ne.symm h2)).trans (hs1.extBut _ _ h1 e)) (Nat.le_refl _)
  · obtain ⟨t, rfl⟩ : ∃ t, tot = .int a t := by
      rcases ht with ⟨_, h, _⟩ | h
      · exact absurd (by rw [h]; decide) hz
      · exact h
    rw [if_neg hz]
    try refine wpAny_bind (wpAny_pure ?_)
    refine wpAny_bind (wpAny_field hm1 rfl (x := Value.none) rfl ?_)
    rw [if_pos (show (Value.none == Value.none) = true by decide)]
    refine wpAny_bind (wpAny_holding (wpAny_add_int ?_))
    refine wpAny_bind (wpAny_setField hm1 rfl (by simp) ?_)
    have hm2 : IsAcc (h1.update m (Obj.mapFields fun x => x.setIfInBounds 2 (.int (a + b) s.toks))) m it (.int (a + b) s.toks) := Heap.get?_update_self _ hm1 rfl
    refine wpAny_bind (wpAny_letGo (wpAny_pure ⟨_, rfl, ?_⟩))
    exact hQ s.toks _ _ hm2 (hit1.at fun o e => (Heap.get?_update_other _ _ hmi).trans e) (fun c o h1 h2 e => (Heap.get?_update_other _ _ (Ne.symm h2)).trans (hs1.extBut _ _ h1 e)) (Nat.le_succ _)
theorem acc_iter {m it : Addr} {tot : Value} {Q : Value → Shared → Prop} (hm : IsAcc s.heap m it tot) (h : Q (.ref m) s) : wpAny (model prog w) A (pyIter (.ref m)) Q E s := by
  have hT : s.TypeIs (.ref m) aN := ⟨_, hm, rfl⟩
  refine wpAny_pyIter_slot hT slot_ac_iter (wpAny_call_entry slot_ac_iter hT entry_ac_iter ?_ (args_ac_iter _))
  show wpAny _ _ (ret (.ref m)) _ _ s
  exact wpAny_pure ⟨_, rfl, aN, _, hT, slot_ac_next.lookup, h⟩
theorem acc_next {m it l : Addr} {i : Nat} {items} {tot : Value} {a b : Int} {tb : Tok} {Q : Option Value → Shared → Prop} (hm : IsAcc s.heap m it tot) (hit : s.heap.IsListIter it l i) (hl : s.heap.IsList l items) (hx : items[i]? = some (.int b tb)) (hmi : m ≠ it) (hlm : l ≠ m) (hli : l ≠ it) (ht : TotIs tot i a)
    (hQ : ∀ t h' tk, IsAcc h' m it (.int (a + b) t) → h'.IsListIter it l (i + 1) → (∀ c o, c ≠ it → c ≠ m → s.heap.get? c = some o → h'.get? c = some o) → s.toks ≤ tk → Q (some (.int (a + b) t)) { s with heap := h', toks := tk }) :
    wpAny (model prog w) A (pyNext (.ref m)) Q E s := by
  have hT0 : s.TypeIs (.ref m) aN := ⟨_, hm, rfl⟩
  unfold pyNext
  exact wpAny_bind (wpAny_attempt (wpAny_callSpecial?_slot (name := Str.ofString "__next__") hT0 slot_ac_next
    (wpAny_call_entry slot_ac_next hT0 entry_ac_next (next_item hm hit hl hx hmi hlm hli ht fun t h' tk e1 e2 e3 e4 => wpAny_pure (hQ t h' tk e1 e2 e3 e4)) (args_ac_next _))))
theorem acc_end {m it l : Addr} {i : Nat} {items} {tot : Value} {Q : Option Value → Shared → Prop} (hh : A.handled = none) (hm : IsAcc s.heap m it tot) (hit : s.heap.IsListIter it l i) (hl : s.heap.IsList l items) (hx : items[i]? = none)
    (hQ : ∀ h', Heap.ExtBut it s.heap h' → Q none { s with heap := h' }) : wpAny (model prog w) A (pyNext (.ref m)) Q E s := by
  have hT0 : s.TypeIs (.ref m) aN := ⟨_, hm, rfl⟩
  unfold pyNext
  refine wpAny_bind (wpAny_attempt (wpAny_callSpecial?_slot (name := Str.ofString "__next__") hT0 slot_ac_next
    (wpAny_call_entry slot_ac_next hT0 entry_ac_next ?_ (args_ac_next _))))
  unfold Builtin.«itertools.accumulate.__next__»
  refine wpAny_bind (wpAny_of_eq (a := ((Value.ref m : Value), ([] : List Value))) (by first | rfl | (simp only [slotArgs]; rfl)) ?_)
  try dsimp only
  refine wpAny_bind (wpAny_field hm rfl (x := Value.none) rfl ?_)
  rw [if_neg (show ¬ ((Value.none != Value.none) = true) by decide)]
  try refine wpAny_bind (wpAny_pure ?_)
  refine wpAny_bind (wpAny_field hm rfl (x := .ref it) rfl ?_)
  refine wpAny_bind (raw_end hh hit hl hx fun h' x he' hx' => ?_)
  obtain ⟨o, ho, hc⟩ := hx'
  refine wpAny_bind (wpAny_isInstance (T := "StopIteration") (b := true) ⟨o, ho, hc⟩ isSubtype_stop ?_)
  exact wpAny_pure (hQ _ he')
/-- such an object is walked -/
theorem walks_acc {m it l : Addr} {items : Array Value} {val : Nat → Int} (hh : A.handled = none) (hmi : m ≠ it) (hlm : l ≠ m) (hli : l ≠ it) (hv : ∀ (i : Nat) (v : Value), items[i]? = some v → ∃ t, v = .int (val i) t) :
    WalksS prog w A m [m, it, l] [it, m] (fun a b => b = a) items.size (fun i v => ∃ t, v = .int (preSum val (i + 1)) t) (fun i s => (∃ tot, IsAcc s.heap m it tot ∧ TotIs tot i (preSum val i)) ∧ s.heap.IsListIter it l i ∧ s.heap.IsList l items) where
  sub := fun b hb => by
    rcases List.mem_cons.mp hb with rfl | hb
    · simp
    · rw [List.mem_singleton.mp hb]; simp
  grefl := fun _ => rfl
  gtrans := fun _ _ _ h1 h2 => h2.trans h1
  frame := fun i s h' tk st _ hk => ⟨st.1.imp fun tot h => ⟨hk m (by simp) _ h.1, h.2⟩, st.2.1.at fun o e => hk it (by simp) o e, st.2.2.at fun o e => hk l (by simp) o e⟩
  item := fun i s Q E hi st hQ => by
    obtain ⟨⟨tot, hm, ht⟩, hit, hl⟩ := st
    obtain ⟨v, hx⟩ : ∃ v, items[i]? = some v := ⟨items[i], by simp [hi]⟩
    obtain ⟨t, rfl⟩ := hv i v hx
    refine acc_next hm hit hl hx hmi hlm hli ht fun t h' tk e1 e2 e3 e4 => ?_
    refine hQ _ _ ⟨t, rfl⟩ ⟨⟨_, e1, .inr ⟨t, rfl⟩⟩, e2, hl.at fun o e => e3 l o hli hlm e⟩ ⟨fun b ob hb e => e3 b ob (fun h => hb (by simp [h])) (fun h => hb (by simp [h])) e, rfl, rfl, rfl, e4⟩
  done := fun s Q E st hQ => by
    obtain ⟨⟨tot, hm, ht⟩, hit, hl⟩ := st
    exact acc_end hh hm hit hl (by simp) fun h' hx => hQ _ ⟨fun b ob hb e => hx b ob (fun h => hb (by simp [h])) e, rfl, rfl, rfl, Nat.le_refl _⟩
  self := fun i s Q E st hQ => by
    obtain ⟨⟨tot, hm, ht⟩, hit, hl⟩ := st
    exact acc_iter hm hQ
/-- sum(accumulate(xs)) -/
theorem sum_acc {l : Addr} {items : Array Value} {val : Nat → Int} {Q : Value → Shared → Prop} (hh : A.handled = none) (hl : s.heap.IsList l items) (hv : ∀ (i : Nat) (v : Value), items[i]? = some v → ∃ t, v = .int (val i) t)
    (hq : ∀ h' t' k, (∀ b o, s.heap.get? b = some o → h'.get? b = some o) → Q (.int (preSum (fun i => preSum val (i + 1)) items.size) t') { s with heap := h', toks := k }) :
    wpAny (model prog w) A (call (.type aN) [.ref l]) (fun v s1 => wpAny (model prog w) A (call (.builtin "sum") [v]) Q E s1) E s := by
  have hh1 : A.in1.handled = none := hh
  have ll : l < s.heap.objs.size := by obtain ⟨o, ho, _⟩ := hl; exact Heap.lt_size ho
  refine call_acc (wpAny_pyIter_list hl ?_)
  intro h' hO hsz hk
  have hs1 : (s.heap.push { cls := .type "list_iterator", data := .fields #[.ref l, .int 0 0] }).objs.size = s.heap.objs.size + 1 := Heap.size_push ..
  have hit : h'.IsListIter s.heap.objs.size l 0 := ⟨_, hk _ _ (Heap.get?_push_size _ rfl), rfl, rfl⟩
  have hL : h'.IsList l items := (hl.push _).at fun o e => hk _ o e
  have hmi : (s.heap.push { cls := .type "list_iterator", data := .fields #[.ref l, .int 0 0] }).objs.size ≠ s.heap.objs.size := by rw [hs1]; exact Nat.succ_ne_self _
  have hlm : l ≠ (s.heap.push { cls := .type "list_iterator", data := .fields #[.ref l, .int 0 0] }).objs.size := by rw [hs1]; exact Nat.ne_of_lt (Nat.lt_succ_of_lt ll)
  have hm : IsAcc h' (s.heap.push { cls := .type "list_iterator", data := .fields #[.ref l, .int 0 0] }).objs.size s.heap.objs.size Builtin.Itertools.itNothing := hO
  refine call_sum_walkAnyS (acc_iter hm ?_)
  refine ⟨_, _, _, _, _, _, _, fun i => preSum val (i + 1), rfl, walks_acc hh1 hmi hlm (Nat.ne_of_lt ll) hv, ⟨⟨_, hm, .inl ⟨rfl, rfl, rfl⟩⟩, hit, hL⟩, fun b hb => ?_, fun i v hv => hv, fun s' t' hm' => ?_⟩
  · rcases List.mem_cons.mp hb with rfl | hb
    · exact Heap.lt_size hm
    · rcases List.mem_cons.mp hb with rfl | hb
      · obtain ⟨o, ho, _⟩ := hit
        exact Heap.lt_size ho
      · rw [List.mem_singleton.mp hb]
        obtain ⟨o, ho, _⟩ := hL
        exact Heap.lt_size ho
  · rw [Moved.eq_with hm']
    exact hq s'.heap t' s'.toks fun b o e => by
      have hlt := Heap.lt_size e
      refine hm'.heap b o (fun hmem => ?_) (hk b o (Heap.get?_push_of_some _ e))
      rcases List.mem_cons.mp hmem with rfl | hmem
      · exact Nat.lt_irrefl _ hlt
      · have h2 := List.mem_singleton.mp hmem
        rw [h2] at hlt
        have h3 : (s.heap.push { cls := .type "list_iterator", data := .fields #[.ref l, .int 0 0] }).objs.size < s.heap.objs.size := hlt
        rw [hs1] at h3
        omega
end
end AcX

set_option Elab.async false
set_option linter.all false
set_option maxRecDepth 100000
set_option maxHeartbeats 2000000
namespace L2
open PySem PySem.Spec PyProof.Rows
/-- the sum of the sums so far -/
def accSum (ns : List Int) : Int := preSum (fun i => preSum (fun j => (ns[j]?).getD 0) (i + 1)) ns.length
section
variable {X : Cx}
def tSumAcc (K : PySem.W.Frag) (ta : TA) : TE := fun σ H Q => ta σ H fun vs H2 => ∃ (q : Addr) (ns : List Int), vs = [.ref q] ∧ SqL K H2 q (ns.map V.int) ∧ Q (.int (accSum ns)) H2
theorem pe_sumAcc {e : Expr} {ta : TA} {p0 pos p pos2 : Pos} (hc : X.calm = true) (hgs : Gl X "sum") (hms : X.mg "sum" = none) (hg : Gl X "accumulate") (hm : X.mg "accumulate" = some (.type AcX.aN)) (ha : PA X [e] ta)
    (hs1 : starEach [.Call (.Name "accumulate" p) [e] [] pos2] X.env = (false, eval (.Call (.Name "accumulate" p) [e] [] pos2) X.env) :: starEach [] X.env := by rfl)
    (hp1 : (backTo pos (starEach [] X.env)).any (·.1) = false := by rfl) (hs : starEach [e] X.env = (false, eval e X.env) :: starEach [] X.env := by rfl) (hpl : (backTo pos2 (starEach [] X.env)).any (·.1) = false := by rfl) :
    PE X (.Call (.Name "sum" p0) [.Call (.Name "accumulate" p) [e] [] pos2] [] pos) (tSumAcc X.K ta) := by
  refine ⟨fun pins s σ H Q I h => ?_⟩
  refine wpAny_Call_Name_kw (ld_blt I hgs hms boot_sum ?_)
  refine PyProof.Rows.callWith_builtin1 ?_ hs1 hp1
  rw [hs1]; show wpAny _ _ (spliced ((false, eval (.Call (.Name "accumulate" p) [e] [] pos2) X.env) :: backTo pos (starEach [] X.env))) _ _ s
  refine Calls.spliced_cons ?_
  refine wpAny_Call_Name_kw (ld_glob I hg hm ?_)
  refine PyProof.Rows.callWith_type1 ?_ hs hpl
  refine thn (ha.run pos2 pins s σ H _ I h) fun us s3 ⟨vs, H2, I3, r3, q3⟩ => ?_
  obtain ⟨q, ns, rfl, hq, q3⟩ := q3
  cases r3 with
  | cons r rr =>
    cases rr
    cases r
    obtain ⟨its, rv, pl, hsz⟩ := I3.list hq
    have hlen : its.length = ns.length := by rw [← rv.length, List.length_map]
    have hval : ∀ (i : Nat) (u : Value), its.toArray[i]? = some u → ∃ t, u = .int ((fun j => (ns[j]?).getD 0) i) t := fun i u hu => by
      have hu' : its[i]? = some u := by simpa using hu
      have hi : i < ns.length := by
        have := (List.getElem?_eq_some_iff.mp hu').1
        omega
      obtain ⟨u2, hu2, rx2⟩ := rv.get (i := i) (x := V.int ns[i]) (by rw [List.getElem?_map, List.getElem?_eq_getElem hi]; rfl)
      have eu : u2 = u := Option.some.inj (hu2.symm.trans hu')
      subst eu
      obtain ⟨t, rfl⟩ := rx2
      exact ⟨t, by simp [List.getElem?_eq_getElem hi]⟩
    refine wpAny_mono (AcX.sum_acc (val := fun j => (ns[j]?).getD 0) (Q := EP X pins σ Q) (E := X.xe) (I3.ok.hd hc) pl.isList hval fun h' t' k hk => ?_) (fun v s4 h4 => Calls.spliced_nil h4) fun _ _ z => z
    have e : its.toArray.size = ns.length := by simp only [List.size_toArray]; omega
    rw [e]
    exact ⟨.int _, H2, I3.kept (t' := k) hk, ⟨t', rfl⟩, q3⟩
end
end L2

set_option Elab.async false
set_option linter.all false
set_option maxRecDepth 100000
set_option maxHeartbeats 2000000
namespace DL
open PySem PySem.Spec PyProof.Rows L2
/-! shifts, masks, reversed(range(n)), sum(accumulate(..)) -/
section
variable {X : Cx} {τ : Tau} {O : Own} {P : W → Own → Prop}
theorem b_shr {i : Int} (k : Nat) (h : P (.d (.int (i / 2 ^ k))) O) : BinD X (binaryOp .RShift) (.d (.int i)) (.d (.int (k : Int))) O P :=
  bind_of op_shrN fun v1 v2 Hr H Q hS h1 h2 hQ => by
    cases h1
    cases h2
    exact ⟨i, k, rfl, rfl, hQ _ _ (po_here h hS (.int _))⟩
theorem b_mask {i : Int} (k : Nat) {j : Int} (hj : j = 2 ^ k - 1) (h : P (.d (.int (i % 2 ^ k))) O) : BinD X (binaryOp .BitAnd) (.d (.int i)) (.d (.int j)) O P :=
  bind_of op_andM fun v1 v2 Hr H Q hS h1 h2 hQ => by
    subst hj
    cases h1
    cases h2
    exact ⟨i, k, rfl, rfl, hQ _ _ (po_here h hS (.int _))⟩
theorem it_revR1 {t a : Expr} {p pos p2 pos2 : Pos} {R : List PyData → Own → Prop} (hm : X.mg "reversed" = none) (hm2 : X.mg "range" = none) (h : DE X τ O a fun w O1 => ∃ n, w = .d (.int n) ∧ -(2 ^ 62) ≤ n ∧ n < 2 ^ 62 ∧ R (rangeD 0 n.toNat).reverse O1) (hg : Gl X "reversed" := by rfl) (hg2 : Gl X "range" := by rfl)
    (hs : starEach [a] X.env = [(false, eval a X.env)] := by rfl) (hs2 : starEach [.Call (.Name "range" p2) [a] [] pos2] X.env = [(false, eval (.Call (.Name "range" p2) [a] [] pos2) X.env)] := by rfl) : IterD X t (.Call (.Name "reversed" p) [.Call (.Name "range" p2) [a] [] pos2] [] pos) τ O R := by
  refine ⟨?_⟩
  intro σ Hr H Rr hE hS hR pins s I
  refine (pi_revR hg hm (prg_1 hg2 hm2 pe_te hs) hs2).run pins s σ H Rr I ?_
  refine h σ Hr H _ hE hS fun v H1 ⟨w, O1, Hr1, ⟨n, hw, h1, h2, hr⟩, e1, s1, k1⟩ => ?_
  subst hw
  cases k1
  refine ⟨n, rfl, by decide, by decide, h1, h2, hR _ H1 _ O1 Hr1 hr e1 s1 ?_⟩
  unfold ItOk
  have e : (rangeD 0 n.toNat).reverse.length = (n - 0).toNat := by simp [rangeD]
  rw [e]
  exact walk_rangeC.mono (fun _ _ => trivial) fun i H x H' hi g y => by
    obtain ⟨y1, rfl⟩ := y
    refine ⟨.int (((n.toNat - 1 - i : Nat) : Nat) : Int), ?_, .inl ⟨y1, ?_⟩⟩
    · rw [Int.sub_zero] at hi
      rw [List.getElem?_reverse (by simpa [rangeD] using hi)]
      have h3 : (rangeD 0 n.toNat).length = n.toNat := by simp [rangeD]
      rw [h3]
      have h4 : n.toNat - 1 - i < n.toNat := by omega
      simp [rangeD, h4]
    · rw [Int.sub_zero] at hi ⊢
      have h4 : 0 + ((n.toNat : Nat) : Int) - 1 + ((i : Nat) : Int) * -1 = ((n.toNat - 1 - i : Nat) : Int) := by omega
      show Dv X.K Hr1 (V.int (0 + ((n.toNat : Nat) : Int) - 1 + ((i : Nat) : Int) * -1)) _
      rw [h4]
      exact .int _
theorem de_sumAcc {e : Expr} {p0 pos p pos2 : Pos} (hc : X.calm = true) (hms : X.mg "sum" = none) (hm : X.mg "accumulate" = some (.type AcX.aN)) (h : DE X τ O e fun w O1 => ∃ ns : List Int, RdL w O1 (ns.map .int) ∧ P (.d (.int (accSum ns))) O1) (hgs : Gl X "sum" := by rfl) (hg : Gl X "accumulate" := by rfl)
    (hs1 : starEach [.Call (.Name "accumulate" p) [e] [] pos2] X.env = [(false, eval (.Call (.Name "accumulate" p) [e] [] pos2) X.env)] := by rfl) (hs : starEach [e] X.env = [(false, eval e X.env)] := by rfl) :
    DE X τ O (.Call (.Name "sum" p0) [.Call (.Name "accumulate" p) [e] [] pos2] [] pos) P := by
  refine ⟨?_⟩
  intro σ Hr H Q hE hS hQ pins s I
  refine (pe_sumAcc hc hgs hms hg hm pa_ta hs1 rfl hs rfl).run pins s σ H Q I ?_
  refine (da_cons (PA := fun ws O1 => ∃ (w : W) (ns : List Int), ws = [w] ∧ RdL w O1 (ns.map .int) ∧ P (.d (.int (accSum ns))) O1) (h.mono fun w O' ⟨ns, r, q⟩ => da_nil ⟨w, ns, rfl, r, q⟩) (by rw [hs]; rfl)) σ Hr H _ hE hS fun vs H1 ⟨ws, O1, Hr1, ⟨w, ns, hw, r, q⟩, e1, s1, k1⟩ => ?_
  subst hw
  cases k1 with
  | cons k2 k3 =>
    cases k3
    obtain ⟨p, vs, rfl, e2, a1⟩ := r.at s1 k2
    have q2 := a1.ints
    subst q2
    exact ⟨_, ns, rfl, SqL.of e2, hQ _ _ (po_to e1 (po_here q s1 (.int _)))⟩
end
end DL

set_option Elab.async false
set_option linter.all false
set_option maxRecDepth 100000
set_option maxHeartbeats 2000000
namespace FR
open PySem PySem.Spec PyProof.Rows L2 DL PK SX
/-! ### frames, pure -/
def accS : Int → List Int → Int
  | _, [] => 0
  | a, x :: r => (a + x) + accS (a + x) r
theorem preSum_shift (f : Nat → Int) : ∀ n, preSum f (n + 1) = f 0 + preSum (fun i => f (i + 1)) n
  | 0 => by show preSum f 0 + f 0 = f 0 + 0; show (0 : Int) + f 0 = f 0 + 0; omega
  | n + 1 => by
    show preSum f (n + 1) + f (n + 1) = f 0 + (preSum (fun i => f (i + 1)) n + f (n + 1))
    rw [preSum_shift f n]
    omega
theorem preSum_ext {f g : Nat → Int} : ∀ n, (∀ i, i < n → f i = g i) → preSum f n = preSum g n
  | 0, _ => rfl
  | n + 1, h => by
    show preSum f n + f n = preSum g n + g n
    rw [preSum_ext n fun i hi => h i (by omega), h n (by omega)]
theorem preSum_add (c : Int) (f : Nat → Int) : ∀ n, preSum (fun i => c + f i) n = c * n + preSum f n
  | 0 => by show (0 : Int) = c * 0 + 0; omega
  | n + 1 => by
    show preSum (fun i => c + f i) n + (c + f n) = c * ((n + 1 : Nat) : Int) + (preSum f n + f n)
    rw [preSum_add c f n, Int.natCast_add, Int.mul_add]
    omega
theorem accS_pre : ∀ (ns : List Int) (a : Int), accS a ns = preSum (fun i => a + preSum (fun j => (ns[j]?).getD 0) (i + 1)) ns.length
  | [], _ => rfl
  | x :: r, a => by
    rw [List.length_cons, preSum_shift, accS, accS_pre r (a + x)]
    have e0 : preSum (fun j => ((x :: r)[j]?).getD 0) (0 + 1) = x := by
      show (0 : Int) + x = x
      omega
    rw [e0]
    congr 1
    refine preSum_ext _ fun i _ => ?_
    rw [preSum_shift (fun j => ((x :: r)[j]?).getD 0) (i + 1)]
    show a + x + _ = a + (x + _)
    rw [Int.add_assoc]
    rfl
theorem accSum_eq (ns : List Int) : accSum ns = accS 0 ns := by
  rw [accS_pre]
  exact preSum_ext _ fun i _ => (Int.zero_add _).symm
/-- the second number: behind each octet the first one is added -/
def ck2 : Nat → List Nat → Nat
  | _, [] => 0
  | f, c :: r => (f + c) + ck2 (f + c) r
theorem ck2_acc : ∀ (l : List Nat) (f : Nat) (a : Int), (f : Int) = 1 + a → (l.length : Int) + accS a (l.map fun (c : Nat) => (c : Int)) = ck2 f l
  | [], _, _, _ => rfl
  | c :: r, f, a, h => by
    rw [ck2, List.map_cons, accS, List.length_cons]
    have := ck2_acc r (f + c) (a + c) (by omega)
    omega
def chk (l : List Nat) : Nat := (1 + l.sum) % 65521 + 65536 * (ck2 1 l % 65521)
theorem chk_lt (l : List Nat) : chk l < 4294967296 := by
  have h1 := Nat.mod_lt (1 + l.sum) (show 65521 > 0 by decide)
  have h2 := Nat.mod_lt (ck2 1 l) (show 65521 > 0 by decide)
  unfold chk
  omega
def b3 (n : Nat) : List Nat := [n / 65536 % 256, n / 256 % 256, n % 256]
def b4 (n : Nat) : List Nat := [n / 16777216 % 256, n / 65536 % 256, n / 256 % 256, n % 256]
def hd7 (l : List Nat) : List Nat := b3 l.length ++ b4 (chk l)
def frm (l : List Nat) : List Nat := hd7 l ++ l
def num (l : List Nat) : Nat := l.foldl (fun n o => n * 256 + o) 0
theorem num_b3 {n : Nat} (h : n < 16777216) : num (b3 n) = n := by
  simp only [num, b3, List.foldl_cons, List.foldl_nil]
  omega
theorem num_b4 {n : Nat} (h : n < 4294967296) : num (b4 n) = n := by
  simp only [num, b4, List.foldl_cons, List.foldl_nil]
  omega
/-- the payload of the frame that stands whole at a place -/
def payAt (l : List Nat) (at_ : Nat) : Option (List Nat) :=
  let e := at_ + 7 + num ((l.take (at_ + 3)).drop at_)
  if e > l.length then none else if chk ((l.take e).drop (at_ + 7)) ≠ num ((l.take (at_ + 7)).drop (at_ + 3)) then none else some ((l.take e).drop (at_ + 7))
/-- the payloads of the frames that stand whole from a place on, and where they end -/
inductive Whole (l : List Nat) : Nat → List (List Nat) → Nat → Prop where
  | stop {at_ : Nat} : payAt l at_ = none → Whole l at_ [] at_
  | step {at_ e : Nat} {p : List Nat} {ps : List (List Nat)} : payAt l at_ = some p → Whole l (at_ + 7 + p.length) ps e → Whole l at_ (p :: ps) e
theorem payAt_len {l : List Nat} {at_ : Nat} {p : List Nat} (h : payAt l at_ = some p) : at_ + 7 + p.length ≤ l.length := by
  unfold payAt at h
  simp only at h
  split at h
  · cases h
  · split at h
    · cases h
    · cases h
      rw [List.length_drop, List.length_take]
      omega
theorem whole_ex (l : List Nat) : ∀ (k at_ : Nat), l.length + 1 ≤ at_ + k → ∃ ps e, Whole l at_ ps e
  | 0, at_, h => ⟨[], at_, .stop (by
    cases q : payAt l at_ with
    | none => rfl
    | some p => have := payAt_len q; omega)⟩
  | k + 1, at_, h => by
    cases q : payAt l at_ with
    | none => exact ⟨[], at_, .stop q⟩
    | some p =>
      obtain ⟨ps, e, w⟩ := whole_ex l k (at_ + 7 + p.length) (by omega)
      exact ⟨p :: ps, e, .step q w⟩
theorem Whole.len {l : List Nat} {at_ e : Nat} {ps : List (List Nat)} (h : Whole l at_ ps e) : at_ ≤ e ∧ 7 * ps.length ≤ e - at_ := by
  induction h with
  | stop _ => simp
  | step q _ ih => simp only [List.length_cons]; omega
theorem Whole.le {l : List Nat} {at_ e : Nat} {ps : List (List Nat)} (h : Whole l at_ ps e) (h0 : at_ ≤ l.length) : e ≤ l.length := by
  induction h with
  | stop _ => exact h0
  | step q _ ih => exact ih (payAt_len q)
theorem hd7_len (p : List Nat) : (hd7 p).length = 7 := rfl
/-- a frame behind others is found -/
theorem payAt_frm {a p b : List Nat} (hp : p.length < 16777216) : payAt (a ++ (frm p ++ b)) a.length = some p := by
  have e1 : ((a ++ (frm p ++ b)).take (a.length + 3)).drop a.length = b3 p.length := by
    rw [List.take_append, List.take_of_length_le (by omega), show a.length + 3 - a.length = 3 by omega, List.drop_left]
    rfl
  have e2 : ((a ++ (frm p ++ b)).take (a.length + 7)).drop (a.length + 3) = b4 (chk p) := by
    rw [List.take_append, List.take_of_length_le (by omega), show a.length + 7 - a.length = 7 by omega, List.drop_append, List.drop_eq_nil_of_le (by omega), show a.length + 3 - a.length = 3 by omega]
    rfl
  have hl : (a ++ (frm p ++ b)).length = a.length + (7 + p.length + b.length) := by
    simp [frm, hd7_len]
    omega
  have e3 : ((a ++ (frm p ++ b)).take (a.length + 7 + p.length)).drop (a.length + 7) = p := by
    have e4 : a ++ (frm p ++ b) = (a ++ hd7 p) ++ (p ++ b) := by simp [frm]
    have e5 : (a ++ hd7 p).length = a.length + 7 := by rw [List.length_append, hd7_len]
    rw [e4, List.take_append, List.take_of_length_le (by omega), e5, show a.length + 7 + p.length - (a.length + 7) = p.length by omega, List.take_left, List.drop_append, List.drop_eq_nil_of_le (by omega), e5]
    simp
  unfold payAt
  simp only
  rw [e1, num_b3 hp, if_neg (by omega), e3, e2, num_b4 (chk_lt p), if_neg (by simp)]
end FR

set_option Elab.async false
set_option linter.all false
set_option maxRecDepth 100000
set_option maxHeartbeats 2000000
/-! comprehensions over lists that may be owned; comprehensions that make owned things -/
namespace DL
open PySem PySem.Spec PyProof.Rows L2
section
variable {X : Cx} {τ : Tau} {O : Own} {P : W → Own → Prop} {D : DEn} {elt t iter : Expr} {ifs : List Expr} {scope : Scope} {pos : Pos} {g : TG}
/-- a comprehension whose turns change nothing owned: f tells what an item gives -/
def LcP (X : Cx) (τ : Tau) (O : Own) (elt : Expr) (ifs : List Expr) (scope : Scope) (vs : List Nat) (g : TG) (PL : Addr → List PyData → Own → Prop) (ds : List PyData) : Prop :=
  ∃ f : PyData → Option PyData, ds.length < sizeLine ∧
    (∀ (i : Nat) (d : PyData), ds[i]? = some d → ∃ τ2, TgOk X.K g vs d (wipeT τ vs) τ2 ∧ ∃ k : Bool, (k = false → f d = none) ∧ ∀ (p : Addr) (acc : List PyData) (s : Shared) (H : Hp) (C : Addr) (cl : List (Str × Addr)) (fp : List Addr),
      DTs (blk X scope s H C cl fp) τ2 ((p, .l acc) :: O) ifs (fun b O3 => b = k ∧ O3 = (p, .l acc) :: O) ∧
      (k = true → DE (blk X scope s H C cl fp) τ2 ((p, .l acc) :: O) elt fun w O4 => O4 = (p, .l acc) :: O ∧ ∃ y, w = .d y ∧ f d = some y)) ∧
    ∀ p, PL p (ds.filterMap f) O
theorem lcp_map {vs : List Nat} {PL : Addr → List PyData → Own → Prop} {ds : List PyData} (f : PyData → PyData) (hz : ds.length < sizeLine)
    (hb : ∀ (i : Nat) (d : PyData), ds[i]? = some d → ∃ τ2, TgOk X.K g vs d (wipeT τ vs) τ2 ∧ ∀ (p : Addr) (acc : List PyData) (s : Shared) (H : Hp) (C : Addr) (cl : List (Str × Addr)) (fp : List Addr),
      DE (blk X scope s H C cl fp) τ2 ((p, .l acc) :: O) elt fun w O4 => w = .d (f d) ∧ O4 = (p, .l acc) :: O)
    (he : ∀ p, PL p (ds.map f) O) : LcP X τ O elt [] scope vs g PL ds := by
  refine ⟨fun d => some (f d), hz, (fun i d hd => ?_), (fun p => by rw [List.filterMap_eq_map']; exact he p)⟩
  obtain ⟨τ2, h1, h2⟩ := hb i d hd
  exact ⟨τ2, h1, true, (fun h => nomatch h), fun p acc s H C cl fp => ⟨dts_nil ⟨rfl, rfl⟩, fun _ => (h2 p acc s H C cl fp).mono fun w O4 ⟨a, b⟩ => ⟨b, f d, a, rfl⟩⟩⟩
theorem filterMap_if (k : PyData → Bool) (f : PyData → PyData) : ∀ ds : List PyData, ds.filterMap (fun d => if k d = true then some (f d) else none) = (ds.filter k).map f
  | [] => rfl
  | x :: r => by
    have ih := filterMap_if k f r
    by_cases h : k x = true
    · simp [List.filter_cons, List.filterMap_cons, h, ih]
    · simp [List.filter_cons, List.filterMap_cons, h, ih]
theorem lcp_filter {vs : List Nat} {PL : Addr → List PyData → Own → Prop} {ds : List PyData} {c : Expr} (k : PyData → Bool) (f : PyData → PyData) (hz : ds.length < sizeLine)
    (hb : ∀ (i : Nat) (d : PyData), ds[i]? = some d → ∃ τ2, TgOk X.K g vs d (wipeT τ vs) τ2 ∧ ∀ (p : Addr) (acc : List PyData) (s : Shared) (H : Hp) (C : Addr) (cl : List (Str × Addr)) (fp : List Addr),
      DT (blk X scope s H C cl fp) τ2 ((p, .l acc) :: O) c (fun b O3 => b = k d ∧ O3 = (p, .l acc) :: O) ∧
      (k d = true → DE (blk X scope s H C cl fp) τ2 ((p, .l acc) :: O) elt fun w O4 => w = .d (f d) ∧ O4 = (p, .l acc) :: O))
    (he : ∀ p, PL p ((ds.filter k).map f) O) : LcP X τ O elt [c] scope vs g PL ds := by
  refine ⟨fun d => if k d = true then some (f d) else none, hz, (fun i d hd => ?_), (fun p => by rw [filterMap_if]; exact he p)⟩
  obtain ⟨τ2, h1, h2⟩ := hb i d hd
  exact ⟨τ2, h1, k d, (fun h => by simp [h]), fun p acc s H C cl fp => ⟨dts_one (h2 p acc s H C cl fp).1, fun hk => ((h2 p acc s H C cl fp).2 hk).mono fun w O4 ⟨a, b⟩ => ⟨b, f d, a, by simp [hk]⟩⟩⟩
/-- a list that can be read is walked: its length and items stay as long as what is owned stays -/
theorem rdl_walk {K : PySem.W.Frag} {Hr H : Hp} {O : Own} {w : W} {ds : List PyData} {p : Addr} (r : RdL w O ds) (S : Sep K Hr O H) (k : WOk K Hr (.ref p) w) : ∃ xs, H p = some (.lst xs) ∧ DvAll K Hr xs ds := by
  obtain ⟨q, xs, e, u1, u2⟩ := r.at S k
  cases e
  exact ⟨xs, u1, u2⟩
theorem lcp_data {vs : List Nat} {PL : Addr → List PyData → Own → Prop} (h : DE X τ O iter fun w O1 => ∃ ds, RdL w O1 ds ∧ LcP X τ O1 elt ifs scope vs g PL ds)
    {σ : L2.St} {Hr H : Hp} {Q : VK} (hE : En X.K Hr σ τ) (hS : Sep X.K Hr O H) (hQ : ∀ v H', PO X.K Hr (fun w O' => ∃ p acc O2, w = .r (.ref p) ∧ O' = (p, .l acc) :: O2 ∧ PL p acc O2) v H' → Q v H') :
    tLc (ti X t iter) g (tIfs X scope ifs) (tElt X scope elt) vs σ H Q := by
  intro pins s I
  refine (pi_list pe_te).run pins s σ H _ I ?_
  refine h σ Hr H _ hE hS fun v H1 ⟨w, O1, Hr1, ⟨ds, r, f, hz, hb, he⟩, e1, s1, k1⟩ => ?_
  obtain ⟨p, xs, rfl, u1, u2⟩ := r.at s1 k1
  refine ⟨p, rfl, ⟨xs, SqL.of u1⟩, ?_⟩
  intro Dl hD
  refine lc_it (J := Itl X.K p) (n := ds.length) (G := fun H => ∃ xs, SqL X.K H p xs ∧ xs.length = ds.length) (Y := fun i H v H' => H' = H ∧ ∀ xs, SqL X.K H p xs → xs[i]? = some v) (g := g) (vs := vs) (σ := σ) (tt := tIfs X scope ifs) (te := tElt X scope elt) (Qd := fun H' => Q (.ref Dl) H')
    ⟨fun i H hi ⟨xs, q, hl⟩ => ⟨xs, xs[i], q, by simp [hl, hi]⟩, fun H ⟨xs, q, hl⟩ => ⟨xs, q, by omega⟩, fun _ _ _ _ _ q y => ⟨y.1, y.2⟩⟩
    (fun i H' => ∃ Hr', Same Hr1 Hr' ∧ Sep X.K Hr' ((Dl, .l ((ds.take i).filterMap f)) :: O1) H') ⟨Hr1, Same.refl _, s1.newOwn hD ⟨[], upd_same, .nil⟩⟩ ?_ ?_ ?_
  · rintro i H' _ ⟨Hr', e, s'⟩
    obtain ⟨ys, y1, y2⟩ := rdl_walk r s'.drop (k1.mono e)
    exact ⟨ys, SqL.of y1, y2.len⟩
  · rintro i x H2 H3 hi ⟨Hr', e, s'⟩ ⟨rfl, y⟩
    obtain ⟨ys, y1, y2⟩ := rdl_walk r s'.drop (k1.mono e)
    obtain ⟨d, hd, kd⟩ := y2.getV (y ys (SqL.of y1))
    obtain ⟨τ2, htg, k, hf, h2⟩ := hb i d hd
    have e3 : Same Hr Hr' := e1.trans e
    have hl : ((ds.take i).filterMap f).length < sizeLine := Nat.lt_of_le_of_lt (List.length_filterMap_le f _) (Nat.lt_of_le_of_lt (List.length_take_le' i ds) hz)
    have hn : (ds.take (i + 1)).filterMap f = (ds.take i).filterMap f ++ [d].filterMap f := by
      rw [List.take_succ, hd, List.filterMap_append]
      rfl
    refine htg x (wipe σ vs) Hr' H3 _ ((hE.mono e3).wiped vs) s'.ex kd ?_
    intro σ' hE' hw
    refine ⟨hw σ rfl, ?_⟩
    intro s0 H0 C cl fp
    refine (h2 Dl _ s0 H0 C cl fp).1 σ' Hr' H3 _ hE' s' fun b H4 ⟨O4, Hr4, ⟨hb1, hb2⟩, e4, s4⟩ => ?_
    subst hb1 hb2
    cases b with
    | true =>
      rw [if_pos rfl]
      intro s0 H0 C cl fp
      refine (h2 Dl _ s0 H0 C cl fp).2 rfl σ' Hr4 H4 _ (hE'.mono e4) s4 fun v H5 ⟨w, O5, Hr5, ⟨ho, y, hw, hy⟩, e5, s5, k5⟩ => ?_
      subst hw ho
      obtain ⟨us, z1, z2⟩ := s5.cell (j := 0) rfl
      exact ⟨us, z1, by rw [z2.len]; exact hl, Hr5, (e.trans e4).trans e5, by
        rw [hn, show [d].filterMap f = [y] by simp [hy]]
        exact s5.put (j := 0) rfl ⟨_, upd_same, z2.snoc k5⟩⟩
    | false =>
      rw [if_neg Bool.false_ne_true]
      exact ⟨Hr4, e.trans e4, by
        rw [hn, show [d].filterMap f = [] by simp [hf rfl], List.append_nil]
        exact s4⟩
  · rintro H' ⟨Hr', e, s'⟩
    rw [List.take_length] at s'
    exact hQ _ _ ⟨_, _, Hr', ⟨Dl, _, _, rfl, rfl, he Dl⟩, e1.trans e, s', rfl⟩
/-- [elt for t in xs if ..], xs a list, owned or not; the new list owned -/
theorem de_lcP (own : List (Str × Nat)) (g : TG) (hN : X.N.Nodup) (ok : BlkOk X.N X.env.scope scope own) (hg : ∀ (s : Shared) (H : Hp) (C : Addr) (cl : List (Str × Addr)) (fp : List Addr), PG (blk X scope s H C cl fp) t g)
    (h : DE X τ O iter fun w O1 => ∃ ds, RdL w O1 ds ∧ LcP X τ O1 elt ifs scope (own.map (·.2)) g (fun q acc O2 => P (.r (.ref q)) ((q, .l acc) :: O2)) ds)
    (hc : X.calm = true := by rfl) (hs : ∀ x, foldedSetIterable iter X.env x = pure x := by intro _; rfl) :
    DE X τ O (.ListComp elt [⟨t, iter, ifs, 0⟩] scope pos) P := by
  refine ⟨?_⟩
  intro σ Hr H Q hE hS hQ pins s I
  refine (pe_lc (own := own) (tt := tIfs X scope ifs) (te := tElt X scope elt) hc hN pi_ti ok hg (fun s H C cl fp => ⟨fun pins s1 σ H1 Q I h => h s H C cl fp pins s1 I⟩) (fun s H C cl fp => ⟨fun pins s1 σ H1 Q I h => h s H C cl fp pins s1 I⟩) hs).run pins s σ H Q I ?_
  exact lcp_data h hE hS fun v H' ⟨w, O', Hr', ⟨p, acc, O2, hw, ho, hP⟩, e, s', k⟩ => hQ v H' ⟨w, O', Hr', by rw [hw, ho]; exact hP, e, s', k⟩
/-- name = [..] -/
theorem ds_setLcP {spos : Pos} (i : Nat) (own : List (Str × Nat)) (g : TG) {y : Str} {py : Pos} (hN : X.N.Nodup) (ok : BlkOk X.N X.env.scope scope own) (hg : ∀ (s : Shared) (H : Hp) (C : Addr) (cl : List (Str × Addr)) (fp : List Addr), PG (blk X scope s H C cl fp) t g)
    (h : DE X τ O iter fun w O1 => ∃ ds, RdL w O1 ds ∧ LcP X τ O1 elt ifs scope (own.map (·.2)) g (fun _ acc O2 => D.nx (τ.set i (some (.d (.list acc)))) O2) ds)
    (hsw : swapsWith (.ListComp elt [⟨t, iter, ifs, 0⟩] scope pos) (some (.Name y py)) spos.line X.env = pure true := by exact sw_true rfl rfl rfl (by decide +kernel))
    (hc : X.calm = true := by rfl) (hs : ∀ x, foldedSetIterable iter X.env x = pure x := by intro _; rfl) (hy : X.N[i]? = some y := by rfl) (hyl : X.env.scope.names.lookup y = some .local := by rfl) :
    DS X τ O (.Assign [.Name y py] (.ListComp elt [⟨t, iter, ifs, 0⟩] scope pos) spos) D := by
  refine ⟨?_⟩
  intro σ Hr H E hE hS hD pins s I
  refine (ps_setLc (own := own) (tt := tIfs X scope ifs) (te := tElt X scope elt) hc hN hy hyl hsw pi_ti ok hg (fun s H C cl fp => ⟨fun pins s1 σ H1 Q I h => h s H C cl fp pins s1 I⟩) (fun s H C cl fp => ⟨fun pins s1 σ H1 Q I h => h s H C cl fp pins s1 I⟩) hs).run pins s σ H E I ?_
  exact lcp_data (PL := fun _ acc O2 => D.nx (τ.set i (some (.d (.list acc)))) O2) h hE hS fun v H' ⟨w, O', Hr', ⟨p, acc, O2, hw, ho, hP⟩, e, s', k⟩ => by
    subst hw ho
    obtain ⟨Hr2, e2, s2, d⟩ := s'.keep
    have k' : v = .ref p := k
    subst k'
    exact hD.nx _ H' ⟨_, _, Hr2, hP, e.trans e2, s2, (hE.mono (e.trans e2)).set i (v := .ref p) (w := .d (.list acc)) d⟩
theorem ds_setLcP1 {spos : Pos} {y : Str} {tp : Pos} (k i : Nat) {z : Str} {zp : Pos} (hN : X.N.Nodup) (ok : BlkOk X.N X.env.scope scope [(y, i)])
    (h : DE X τ O iter fun w O1 => ∃ ds, RdL w O1 ds ∧ LcP X τ O1 elt ifs scope [i] (gName i) (fun _ acc O2 => D.nx (τ.set k (some (.d (.list acc)))) O2) ds)
    (hg : ∀ (s : Shared) (H : Hp) (C : Addr) (cl : List (Str × Addr)) (fp : List Addr), PG (blk X scope s H C cl fp) (.Name y tp) (gName i) := by exact fun _ _ _ _ _ => pg_name (by assumption) rfl (by first | exact Or.inl rfl | exact Or.inr rfl))
    (hsw : swapsWith (.ListComp elt [⟨.Name y tp, iter, ifs, 0⟩] scope pos) (some (.Name z zp)) spos.line X.env = pure true := by exact sw_true rfl rfl rfl (by decide +kernel))
    (hc : X.calm = true := by rfl) (hs : ∀ x, foldedSetIterable iter X.env x = pure x := by intro _; rfl) (hy : X.N[k]? = some z := by rfl) (hyl : X.env.scope.names.lookup z = some .local := by rfl) :
    DS X τ O (.Assign [.Name z zp] (.ListComp elt [⟨.Name y tp, iter, ifs, 0⟩] scope pos) spos) D := ds_setLcP k [(y, i)] (gName i) hN ok hg h hsw hc hs hy hyl
theorem de_lcPd (own : List (Str × Nat)) (g : TG) (hN : X.N.Nodup) (ok : BlkOk X.N X.env.scope scope own) (hg : ∀ (s : Shared) (H : Hp) (C : Addr) (cl : List (Str × Addr)) (fp : List Addr), PG (blk X scope s H C cl fp) t g)
    (h : DE X τ O iter fun w O1 => ∃ ds, RdL w O1 ds ∧ LcP X τ O1 elt ifs scope (own.map (·.2)) g (fun q acc O2 => P (.d (.list acc)) O2) ds)
    (hc : X.calm = true := by rfl) (hs : ∀ x, foldedSetIterable iter X.env x = pure x := by intro _; rfl) :
    DE X τ O (.ListComp elt [⟨t, iter, ifs, 0⟩] scope pos) P :=
  de_kp (de_lcP own g hN ok hg (h.mono fun w O1 ⟨ds, r, f, hz, hb, he⟩ => ⟨ds, r, f, hz, hb, fun p => .inr ⟨p, _, _, rfl, rfl, he p⟩⟩) hc hs)
/-- over one name -/
theorem de_lcP1 {y : Str} {tp : Pos} (i : Nat) (hN : X.N.Nodup) (ok : BlkOk X.N X.env.scope scope [(y, i)])
    (h : DE X τ O iter fun w O1 => ∃ ds, RdL w O1 ds ∧ LcP X τ O1 elt ifs scope [i] (gName i) (fun _ acc O2 => P (.d (.list acc)) O2) ds)
    (hg : ∀ (s : Shared) (H : Hp) (C : Addr) (cl : List (Str × Addr)) (fp : List Addr), PG (blk X scope s H C cl fp) (.Name y tp) (gName i) := by exact fun _ _ _ _ _ => pg_name (by assumption) rfl (by first | exact Or.inl rfl | exact Or.inr rfl)) (hc : X.calm = true := by rfl) (hs : ∀ x, foldedSetIterable iter X.env x = pure x := by intro _; rfl) :
    DE X τ O (.ListComp elt [⟨.Name y tp, iter, ifs, 0⟩] scope pos) P := de_lcPd [(y, i)] (gName i) hN ok hg h hc hs
theorem de_lcP1O {y : Str} {tp : Pos} (i : Nat) (hN : X.N.Nodup) (ok : BlkOk X.N X.env.scope scope [(y, i)])
    (h : DE X τ O iter fun w O1 => ∃ ds, RdL w O1 ds ∧ LcP X τ O1 elt ifs scope [i] (gName i) (fun q acc O2 => P (.r (.ref q)) ((q, .l acc) :: O2)) ds)
    (hg : ∀ (s : Shared) (H : Hp) (C : Addr) (cl : List (Str × Addr)) (fp : List Addr), PG (blk X scope s H C cl fp) (.Name y tp) (gName i) := by exact fun _ _ _ _ _ => pg_name (by assumption) rfl (by first | exact Or.inl rfl | exact Or.inr rfl)) (hc : X.calm = true := by rfl) (hs : ∀ x, foldedSetIterable iter X.env x = pure x := by intro _; rfl) :
    DE X τ O (.ListComp elt [⟨.Name y tp, iter, ifs, 0⟩] scope pos) P := de_lcP [(y, i)] (gName i) hN ok hg h hc hs
end
end DL

set_option Elab.async false
set_option linter.all false
set_option maxRecDepth 100000
set_option maxHeartbeats 2000000
/-! comprehensions that make a list of owned things -/
namespace DL
open PySem PySem.Spec PyProof.Rows L2
section
variable {X : Cx} {τ : Tau} {O : Own} {P : W → Own → Prop} {D : DEn} {elt t iter : Expr} {scope : Scope} {pos : Pos} {g : TG} {w1 : W}
def LcR (X : Cx) (τ : Tau) (O : Own) (elt : Expr) (scope : Scope) (vs : List Nat) (g : TG) (P : Addr → Own → Prop) (ds : List PyData) : Prop :=
  ∀ p : Addr, ∃ Iv : Nat → List V → Own → Prop, Iv 0 [] ((p, Cell.o (.lst [])) :: O) ∧
    (∀ (i : Nat) (d : PyData) (us : List V) (O' : Own), ds[i]? = some d → Iv i us O' → (∃ j : Nat, O'[j]? = some (p, Cell.o (.lst us))) ∧ ∃ τ2, TgOk X.K g vs d (wipeT τ vs) τ2 ∧
      ∀ (s : Shared) (H : Hp) (C : Addr) (cl : List (Str × Addr)) (fp : List Addr), DE (blk X scope s H C cl fp) τ2 O' elt fun w O4 => ∃ (u : V) (j : Nat), w = .r u ∧ O4[j]? = some (p, Cell.o (.lst us)) ∧ us.length < sizeLine ∧ Iv (i + 1) (us ++ [u]) (O4.set j (p, Cell.o (.lst (us ++ [u]))))) ∧
    ∀ (us : List V) (O' : Own), Iv ds.length us O' → P p O'
theorem de_lcR (own : List (Str × Nat)) (g : TG) (hN : X.N.Nodup) (ok : BlkOk X.N X.env.scope scope own) (hg : ∀ (s : Shared) (H : Hp) (C : Addr) (cl : List (Str × Addr)) (fp : List Addr), PG (blk X scope s H C cl fp) t g)
    (h : IterD X t iter τ O fun ds O1 => LcR X τ O1 elt scope (own.map (·.2)) g (fun p O2 => P (.r (.ref p)) O2) ds) (hc : X.calm = true := by rfl) (hs : ∀ x, foldedSetIterable iter X.env x = pure x := by intro _; rfl) :
    DE X τ O (.ListComp elt [⟨t, iter, [], 0⟩] scope pos) P := by
  refine ⟨?_⟩
  intro σ Hr H Q hE hS hQ pins s I
  refine (pe_lc (own := own) (tt := tIfs X scope []) (te := tElt X scope elt) hc hN pi_ti ok hg (fun s H C cl fp => ⟨fun pins s1 σ H1 Q I h => h s H C cl fp pins s1 I⟩) (fun s H C cl fp => ⟨fun pins s1 σ H1 Q I h => h s H C cl fp pins s1 I⟩) hs).run pins s σ H Q I ?_
  refine h σ Hr H _ hE hS fun J H1 ds O1 Hr1 hL e1 s1 ok => ?_
  intro Dl hD
  obtain ⟨Iv, h0, hstep, hend⟩ := (show LcR X τ O1 elt scope (own.map (·.2)) g (fun p O2 => P (.r (.ref p)) O2) ds from hL) Dl
  refine lc_it (g := g) (vs := own.map (·.2)) (σ := σ) (tt := tIfs X scope []) (te := tElt X scope elt) (Qd := fun H' => Q (.ref Dl) H') ok (fun i H' => ∃ (us : List V) (O' : Own) (Hr' : Hp), Iv i us O' ∧ Same Hr1 Hr' ∧ Sep X.K Hr' O' H') ⟨[], _, Hr1, h0, Same.refl _, s1.newOwn (c := .o (.lst [])) hD upd_same⟩ (fun i H' _ ⟨_, _, Hr', _, e, s'⟩ => fun a o q => s'.ex a o (e a o q)) ?_ ?_
  · intro i x H2 H3 hi ⟨us, O', Hr', hI, e, s'⟩ y
    obtain ⟨d, Hr2, hd, e2, s2, kd⟩ := y.sep e s'
    obtain ⟨-, τ2, htg, hb⟩ := hstep i d us O' hd hI
    have e3 : Same Hr Hr2 := (e1.trans e).trans e2
    refine htg x (wipe σ (own.map (·.2))) Hr2 H3 _ ((hE.mono e3).wiped (own.map (·.2))) s2.ex kd ?_
    intro σ' hE' hw
    refine ⟨hw σ rfl, ?_⟩
    intro s0 H0 C cl fp
    refine dts_nil (P := fun b O3 => b = true ∧ O3 = O') ⟨rfl, rfl⟩ σ' Hr2 H3 _ hE' s2 fun b H4 ⟨O4, Hr4, ⟨hb1, hb2⟩, e4, s4⟩ => ?_
    subst hb1 hb2
    rw [if_pos rfl]
    intro s0 H0 C cl fp
    refine hb s0 H0 C cl fp σ' Hr4 H4 _ (hE'.mono e4) s4 fun v H5 ⟨w, O5, Hr5, ⟨u, j, hw, hj, hz, hI5⟩, e5, s5, k5⟩ => ?_
    subst hw
    cases k5
    have z1 : H5 Dl = some (.lst us) := s5.cell hj
    exact ⟨us, z1, hz, us ++ [v], _, Hr5, hI5, ((e.trans e2).trans e4).trans e5, s5.put hj (c' := .o (.lst (us ++ [v]))) upd_same⟩
  · intro H' ⟨us, O', Hr', hI, e, s'⟩
    exact hQ _ _ ⟨_, _, Hr', hend us O' hI, e1.trans e, s', rfl⟩
theorem de_lcR1 {y : Str} {tp : Pos} (i : Nat) (hN : X.N.Nodup) (ok : BlkOk X.N X.env.scope scope [(y, i)])
    (h : IterD X (.Name y tp) iter τ O fun ds O1 => LcR X τ O1 elt scope [i] (gName i) (fun p O2 => P (.r (.ref p)) O2) ds)
    (hg : ∀ (s : Shared) (H : Hp) (C : Addr) (cl : List (Str × Addr)) (fp : List Addr), PG (blk X scope s H C cl fp) (.Name y tp) (gName i) := by exact fun _ _ _ _ _ => pg_name (by assumption) rfl (by first | exact Or.inl rfl | exact Or.inr rfl)) (hc : X.calm = true := by rfl) (hs : ∀ x, foldedSetIterable iter X.env x = pure x := by intro _; rfl) :
    DE X τ O (.ListComp elt [⟨.Name y tp, iter, [], 0⟩] scope pos) P := de_lcR [(y, i)] (gName i) hN ok hg h hc hs
/-- xs * k, owned -/
theorem b_repLO {ds : List PyData} {k : Int} (r1 : RdL w1 O ds) (h1 : -(2 ^ 63) ≤ k) (h2 : k < 2 ^ 63) (hl : ds.length * k.toNat ≤ sizeLine) (h : ∀ p, P (.r (.ref p)) ((p, .l (List.replicate k.toNat ds).flatten) :: O)) : BinD X (binaryOp .Mult) w1 (.d (.int k)) O P :=
  bind_of op_rep fun v1 v2 Hr H Q hS k1 k2 hQ => by
    obtain ⟨p, vs, rfl, e1, a1⟩ := r1.at hS k1
    cases k2
    exact ⟨_, _, _, rfl, rfl, e1, h1, h2, by rw [a1.len]; exact hl, fun p hp => hQ _ _ ⟨_, _, Hr, h p, Same.refl _, hS.newOwn hp ⟨_, upd_same, DvAll_rep a1 _⟩, rfl⟩⟩
/-! ### things let go: from then on they are data -/
/-- a list of references to owned lists, let go -/
theorem Sep.freeze1 {K : PySem.W.Frag} {Hr H : Hp} {O : Own} {p : Addr} {ds : List PyData} (S : Sep K Hr ((p, .l ds) :: O) H) : ∃ Hr', Same Hr Hr' ∧ Sep K Hr' O H ∧ Dv K Hr' (.ref p) (.list ds) := S.keep
theorem Sep.freezeAll {K : PySem.W.Frag} {H : Hp} : ∀ (ps : List Addr) (dss : List (List PyData)) {Hr : Hp} {O : Own}, ps.length = dss.length → Sep K Hr (List.zipWith (fun p ds => (p, Cell.l ds)) ps dss ++ O) H →
    ∃ Hr', Same Hr Hr' ∧ Sep K Hr' O H ∧ DvAll K Hr' (ps.map V.ref) (dss.map PyData.list)
  | [], [], Hr, O, _, S => ⟨Hr, Same.refl _, S, .nil⟩
  | p :: ps, ds :: dss, Hr, O, hl, S => by
    obtain ⟨Hr1, e1, S1, d1⟩ := Sep.keep (show Sep K Hr ((p, .l ds) :: (List.zipWith (fun p ds => (p, Cell.l ds)) ps dss ++ O)) H from S)
    obtain ⟨Hr2, e2, S2, d2⟩ := Sep.freezeAll ps dss (by simpa using hl) S1
    exact ⟨Hr2, e1.trans e2, S2, .cons (dv_mono e2 d1) d2⟩
  | [], _ :: _, _, _, h, _ => by simp at h
  | _ :: _, [], _, _, h, _ => by simp at h
/-- an owned list of references becomes an owned list of data -/
theorem Sep.freezeL {K : PySem.W.Frag} {Hr H : Hp} {O : Own} {pv : Addr} {ps : List Addr} {dss : List (List PyData)} (hl : ps.length = dss.length) (S : Sep K Hr ((pv, .o (.lst (ps.map V.ref))) :: (List.zipWith (fun p ds => (p, Cell.l ds)) ps dss ++ O)) H) :
    ∃ Hr', Same Hr Hr' ∧ Sep K Hr' ((pv, .l (dss.map PyData.list)) :: O) H := by
  have S1 := S.sub (O' := List.zipWith (fun p ds => (p, Cell.l ds)) ps dss ++ ((pv, .o (.lst (ps.map V.ref))) :: O)) (Les.of List.perm_middle)
  obtain ⟨Hr', e, S2, d⟩ := Sep.freezeAll ps dss hl S1
  refine ⟨Hr', e, S2.ex, fun x hx => ?_, S2.nd⟩
  rcases List.mem_cons.mp hx with rfl | q
  · obtain ⟨a, b⟩ := S2.own _ List.mem_cons_self
    exact ⟨a, _, b, d⟩
  · exact S2.own x (List.mem_cons_of_mem _ q)
/-- an owned dict of references to owned lists becomes an owned dict of data -/
theorem Sep.freezeD {K : PySem.W.Frag} {Hr H : Hp} {O : Own} {pw : Addr} {ks : List Key} {ps : List Addr} {dss : List (List PyData)} (hk : ks.length = ps.length) (hl : ps.length = dss.length) (S : Sep K Hr ((pw, .o (.dK (ks.zip (ps.map V.ref)))) :: (List.zipWith (fun p ds => (p, Cell.l ds)) ps dss ++ O)) H) :
    ∃ Hr', Same Hr Hr' ∧ Sep K Hr' ((pw, .k (ks.zip (dss.map PyData.list))) :: O) H := by
  have S1 := S.sub (O' := List.zipWith (fun p ds => (p, Cell.l ds)) ps dss ++ ((pw, .o (.dK (ks.zip (ps.map V.ref)))) :: O)) (Les.of List.perm_middle)
  obtain ⟨Hr', e, S2, d⟩ := Sep.freezeAll ps dss hl S1
  have kd : ∀ (ks : List Key) (vs : List V) (es : List PyData), DvAll K Hr' vs es → KD K Hr' (ks.zip vs) (ks.zip es) := by
    intro ks
    induction ks with
    | nil => intro vs es _; exact .nil
    | cons k ks ih =>
      intro vs es h
      cases h with
      | nil => exact .nil
      | cons a b => exact .cons ⟨rfl, a⟩ (ih _ _ b)
  refine ⟨Hr', e, S2.ex, fun x hx => ?_, S2.nd⟩
  rcases List.mem_cons.mp hx with rfl | q
  · obtain ⟨a, b⟩ := S2.own _ List.mem_cons_self
    exact ⟨a, _, b, kd _ _ _ d⟩
  · exact S2.own x (List.mem_cons_of_mem _ q)
/-- before a statement: a change of what is told of the heap -/
theorem dss_turn {O' : Own} {rest : List Stmt} (q : ∀ {K : PySem.W.Frag} {Hr H : Hp}, Sep K Hr O H → ∃ Hr', Same Hr Hr' ∧ Sep K Hr' O' H) (h : DSs X τ O' rest D) : DSs X τ O rest D := ⟨fun σ Hr H E hE hS hD => by
  obtain ⟨Hr', e, S⟩ := q hS
  exact h σ Hr' H E (hE.mono e) S (hD.to e)⟩
end
end DL

set_option Elab.async false
set_option linter.all false
set_option maxRecDepth 100000
set_option maxHeartbeats 2000000
namespace DL
open PySem PySem.Spec PyProof.Rows L2
section
variable {X : Cx} {τ : Tau} {O : Own} {rest : List Stmt} {D : DEn}
/-- an owned list that a slot names is let go: the slot holds data from then on -/
theorem dss_let (i : Nat) {p : Addr} {ds : List PyData} (hi : τ[i]? = some (some (.r (.ref p)))) (h : DSs X (τ.set i (some (.d (.list ds)))) O rest D) : DSs X τ ((p, .l ds) :: O) rest D := ⟨fun σ Hr H E hE hS hD => by
  obtain ⟨Hr', e, S, d⟩ := hS.keep
  obtain ⟨v, hv, kv⟩ := hE.at_ i _ hi
  have kv' : v = .ref p := kv
  subst kv'
  have e2 : σ.set i (some (V.ref p)) = σ := by
    apply List.ext_getElem?
    intro k
    rw [List.getElem?_set]
    split
    · rename_i q
      subst q
      split
      · exact hv.symm
      · rename_i q2
        rw [List.getElem?_eq_none (by omega)]
    · rfl
  have hE' := (hE.mono e).set (v := .ref p) (w := .d (.list ds)) i d
  rw [e2] at hE'
  exact h σ Hr' H E hE' S (hD.to e)⟩
theorem b_plusI {P : W → Own → Prop} {i j : Int} (h : P (.d (.int (i + j))) O) : BinD X (inplaceOp .Add) (.d (.int i)) (.d (.int j)) O P := b_I0 iop_add (fun _ => .int _) h
end
end DL

set_option Elab.async false
set_option linter.all false
set_option maxRecDepth 100000
set_option maxHeartbeats 4000000
namespace L2
open PySem PySem.Spec PyProof.Rows
theorem op_repStr {X : Cx} : OpR X (binaryOp .Mult) (fun x y H Q => ∃ (z : Str) (k : Int), x = .str z ∧ y = .int k ∧ 0 ≤ k ∧ k ≤ 1000 ∧ 1 ≤ z.length ∧ z.length ≤ 1000 ∧ Q (.str ⟨(List.replicate k.toNat z.cps.toList).flatten.toArray⟩) H) := by
  intro pins s σ H x y v u Q I rx ry h
  obtain ⟨z, k, rfl, rfl, h0, h1, hz0, hz, q⟩ := h
  obtain ⟨t, rfl⟩ := rx
  obtain ⟨t2, rfl⟩ := ry
  have e1 : ∀ m : Nat, (List.replicate m z.cps).foldl (· ++ ·) #[] = (List.replicate m z.cps.toList).flatten.toArray := fun m => by
    have : ∀ (m : Nat) (a : List Nat), (List.replicate m z.cps).foldl (· ++ ·) a.toArray = (a ++ (List.replicate m z.cps.toList).flatten).toArray := by
      intro m
      induction m with
      | zero => intro a; simp
      | succ m ih =>
        intro a
        rw [List.replicate_succ, List.foldl_cons, List.replicate_succ, List.flatten_cons, ← List.append_assoc, ← ih]
        congr 1
        apply Array.ext'
        simp
    have := this m []
    rw [List.nil_append] at this
    exact this
  have hk : (k.toNat : Int) = k := by omega
  refine P.mul_str (by rw [decide_eq_false (by omega), decide_eq_false (by omega)]; rfl) (fun h2 _ => ?_) (fun h2 _ => ?_) ?_
  · have hm : ((z.length : Nat) : Int) * k ≤ 1000 * 1000 := Int.mul_le_mul (by omega) h1 h0 (by omega)
    have := Int.le_ediv_of_mul_le (c := k) (by omega) (a := ((z.length : Nat) : Int)) (b := 2 ^ 63 - 1) (by omega)
    omega
  · have hm : z.length * k.toNat ≤ 1000 * 1000 := Nat.mul_le_mul hz (by omega)
    exact decide_eq_false (by rw [sizeLine_eq]; omega)
  · by_cases hk1 : k < 1
    · rw [if_pos hk1]
      have : k = 0 := by omega
      subst this
      exact ⟨by decide, .str _, H, I.tok _, ⟨_, rfl⟩, q⟩
    · rw [if_neg hk1]
      by_cases hk2 : k = 1
      · subst hk2
        rw [if_pos (by simp)]
        refine ⟨.str z, H, I, ⟨_, rfl⟩, ?_⟩
        have e2 : (⟨(List.replicate (1 : Int).toNat z.cps.toList).flatten.toArray⟩ : Str) = z := by simp
        rw [e2] at q
        exact q
      · rw [if_neg (by simp; omega), e1]
        have hm : (List.replicate k.toNat z.cps.toList).flatten.length ≤ 1000 * 1000 := by
          have := PyProof.Rows.lm_len_rep_flat z.cps.toList k.toNat
          rw [this]
          exact Nat.mul_le_mul (by omega) hz
        refine ⟨?_, .str _, H, I.tok _, ⟨_, rfl⟩, q⟩
        show (List.replicate k.toNat z.cps.toList).flatten.toArray.size ≤ sizeLine
        rw [List.size_toArray, sizeLine_eq]
        omega
theorem tuple_mul1 (l : Addr) (items : Array Value) (n : Nat) (dd : Option Addr) (sl : Array (Option Value)) (u : Tok) :
    Meets (Builtin.«tuple.__mul__» ⟨[.ref l, .int 1 u], []⟩) (fun _ R s => s.heap.get? l = some { cls := .type "tuple", dict := dd, data := .seq items n, slots := sl } ∧ R (.ok (.ret (Value.ref l))) s) :=
  .of_wp fun prog w A R s h => by
    obtain ⟨hp, g, d, tk, os⟩ := s
    obtain ⟨hl, h⟩ := h
    have f1 := AutoSeq1.idx_int
    wp_walk using wpAny_loadPart' hl
    exact ⟨_, rfl, h⟩
theorem tuple_mul0 (l : Addr) (items : Array Value) (n : Nat) (dd : Option Addr) (sl : Array (Option Value)) (u : Tok) (hi : items.isEmpty = false) :
    Meets (Builtin.«tuple.__mul__» ⟨[.ref l, .int 0 u], []⟩) (fun _ R s => s.heap.get? l = some { cls := .type "tuple", dict := dd, data := .seq items n, slots := sl } ∧ R (.ok (.ret (Value.ref s.heap.objs.size))) { s with heap := s.heap.push { cls := .type "tuple", data := .seq #[] } }) :=
  .of_wp fun prog w A R s h => by
    obtain ⟨hp, g, d, tk, os⟩ := s
    obtain ⟨hl, h⟩ := h
    have f1 := AutoSeq1.idx_int
    wp_walk using wpAny_loadPart' hl
    repeat (first
      | (refine wpAny_ite_false (decide_eq_false (by rw [hi]; decide)) ?_; wp_walk using wpAny_loadPart' hl)
      | (refine wpAny_ite_true (decide_eq_true (by rw [hi]; decide)) ?_; wp_walk using wpAny_loadPart' hl))
    exact ⟨_, rfl, h⟩
def rRep01 (K : PySem.W.Frag) : R2 := fun x y H Q => ∃ l k xs, x = .ref l ∧ y = .int k ∧ SqT K H l xs ∧ xs ≠ [] ∧ (k = 0 ∨ k = 1) ∧ (k = 0 → ∀ p, H p = none → Q (.ref p) (upd H p (.tup []))) ∧ (k = 1 → Q (.ref l) H)
theorem op_rep01 {X : Cx} : OpR X (binaryOp .Mult) (rRep01 X.K) := by
  intro pins s σ H x y v u Q I rx ry h
  obtain ⟨l, k, xs, rfl, rfl, hT, hne, hk, q0, q1⟩ := h
  cases rx
  obtain ⟨t, rfl⟩ := ry
  obtain ⟨its, r, ⟨⟨cls, dd, data, sl⟩, ho, hc, n, hd⟩, hs⟩ := I.tuple hT
  simp only at hc hd
  subst hc hd
  have hle : its.length = xs.length := r.length.symm
  have hi : its.toArray.isEmpty = false := by
    cases its with
    | nil => exact absurd (List.eq_nil_of_length_eq_zero hle.symm) hne
    | cons a b => rfl
  rcases hk with rfl | rfl
  · refine wpAny_binaryOp_repeat_ref (T := "tuple") (U := "int") (by decide) ⟨_, ho, rfl⟩ (fun s' => typeIs_int s' 0 t) noFill_tuple_mul F.fills_int_mul F.slot_int_rmul repeat_tuple F.slot_int_index.lookup
      (call_meets F.slot_int_rmul (typeIs_int s 0 t) F.entry_int_rmul (F.args_int_rmul_2 _ _) (int_rmul_tuple 0 t l its.toArray n dd sl) ⟨ho, rfl, ⟨_, ho, rfl⟩, call_meets F.slot_tuple_mul ⟨_, ho, rfl⟩ F.entry_tuple_mul (F.args_tuple_mul_2 _ _) (tuple_mul0 l its.toArray n dd sl t hi) ⟨ho, ?_⟩⟩)
    exact ⟨.ref s.heap.objs.size, _, I.laid (t' := s.toks) (o := .tup []) (fun b ob q => Heap.get?_push_of_some _ q) (Nat.le_refl _) ⟨by rw [sizeLine_eq]; exact (by decide : 0 ≤ 16777216), [], .nil, IsTup.new _ _⟩, rfl, q0 rfl _ (I.hok.fresh (Nat.le_refl _))⟩
  · refine wpAny_binaryOp_repeat_ref (T := "tuple") (U := "int") (by decide) ⟨_, ho, rfl⟩ (fun s' => typeIs_int s' 1 t) noFill_tuple_mul F.fills_int_mul F.slot_int_rmul repeat_tuple F.slot_int_index.lookup
      (call_meets F.slot_int_rmul (typeIs_int s 1 t) F.entry_int_rmul (F.args_int_rmul_2 _ _) (int_rmul_tuple 1 t l its.toArray n dd sl) ⟨ho, rfl, ⟨_, ho, rfl⟩, call_meets F.slot_tuple_mul ⟨_, ho, rfl⟩ F.entry_tuple_mul (F.args_tuple_mul_2 _ _) (tuple_mul1 l its.toArray n dd sl t) ⟨ho, ?_⟩⟩)
    exact ⟨.ref l, H, I, rfl, q1 rfl⟩
end L2
namespace DL
open PySem PySem.Spec PyProof.Rows L2 PK SX
section
variable {X : Cx} {τ : Tau} {O : Own} {P : W → Own → Prop}
theorem b_repC {c : List Nat} {k : Int} (h0 : 0 ≤ k) (h1 : k ≤ 1000) (hc0 : 1 ≤ c.length) (hc : c.length ≤ 1000) (h : P (.d (sd (List.replicate k.toNat c).flatten)) O) : BinD X (binaryOp .Mult) (.d (sd c)) (.d (.int k)) O P :=
  bind_of op_repStr fun v1 v2 Hr H Q hS k1 k2 hQ => by
    cases k1
    cases k2
    exact ⟨S c, k, rfl, rfl, h0, h1, by rw [S_len]; exact hc0, by rw [S_len]; exact hc, hQ _ _ (po_here h hS (.str _))⟩
theorem b_rep01 {ds : List PyData} {k : Int} (hne : ds ≠ []) (hk : k = 0 ∨ k = 1) (h : P (.d (.tuple (List.replicate k.toNat ds).flatten)) O) : BinD X (binaryOp .Mult) (.d (.tuple ds)) (.d (.int k)) O P :=
  bind_of op_rep01 fun v1 v2 Hr H Q hS k1 k2 hQ => by
    cases k2
    cases k1 with
    | tup e1 a1 =>
      refine ⟨_, _, _, rfl, rfl, same_t hS.ex e1, fun q => hne (a1.nil_iff.mp q), hk, fun e p hp => ?_, fun e => ?_⟩
      · subst e
        exact hQ _ _ (po_new h hS hp (.tup (SqT.of upd_same) .nil))
      · subst e
        have e2 : (List.replicate (1 : Int).toNat ds).flatten = ds := by simp
        rw [e2] at h
        exact hQ _ _ (po_here h hS (.tup e1 a1))
theorem sl_sdR {l : List Nat} {lo hi : Option Int} (hz : l.length ≤ 10000000) (h : P (.d (sd (cutL l lo hi))) O) : SlD X (.d (sd l)) lo hi O P :=
  sl_s (by rw [S_len, sizeLine_eq]; omega) (by
    have e : cutS (S l) lo hi = S (cutL l lo hi) := by
      unfold cutS cutL
      rw [show (S l).cps.toList = l by simp [S], show (S l).length = l.length from S_len _]
    rw [e]; exact h)
end
end DL

set_option Elab.async false
set_option linter.all false
set_option maxRecDepth 100000
set_option maxHeartbeats 2000000
/-! how many frames a row of few frames holds, of which one octet may be another one (pure) -/
namespace FR
open PySem PySem.Spec PyProof.Rows L2 DL PK SX
theorem payAt_app (a r : List Nat) (k : Nat) : payAt (a ++ r) (a.length + k) = payAt r k := by
  have d : ∀ i j : Nat, ((a ++ r).take (a.length + i)).drop (a.length + j) = (r.take i).drop j := fun i j => by
    rw [List.take_append, List.take_of_length_le (by omega), show a.length + i - a.length = i by omega, List.drop_append, List.drop_eq_nil_of_le (by omega), List.nil_append, show a.length + j - a.length = j by omega]
  unfold payAt
  simp only
  rw [show a.length + k + 3 = a.length + (k + 3) by omega, show a.length + k + 7 = a.length + (k + 7) by omega, d, d, List.length_append]
  generalize num ((r.take (k + 3)).drop k) = L
  rw [show a.length + (k + 7) + L = a.length + (k + 7 + L) by omega, d]
  by_cases h : k + 7 + L > r.length
  · rw [if_pos h, if_pos (by omega)]
  · rw [if_neg h, if_neg (by omega)]
theorem payAt_drop (l : List Nat) (k : Nat) (h : k ≤ l.length) : payAt l k = payAt (l.drop k) 0 := by
  have := payAt_app (l.take k) (l.drop k) 0
  rw [List.take_append_drop, List.length_take, Nat.min_eq_left h, Nat.add_zero] at this
  exact this
/-- such a row, read from its beginning on -/
inductive WS : List Nat → Nat → Prop where
  | stop {r : List Nat} : payAt r 0 = none → WS r 0
  | step {r p : List Nat} {n : Nat} : payAt r 0 = some p → WS (r.drop (7 + p.length)) n → WS r (n + 1)
theorem Whole.ws {l : List Nat} {k e : Nat} {ps : List (List Nat)} (h : Whole l k ps e) (hk : k ≤ l.length) : WS (l.drop k) ps.length := by
  induction h with
  | stop q => exact .stop (by rw [← payAt_drop _ _ hk]; exact q)
  | step q _ ih =>
    have hl := payAt_len q
    refine .step (p := _) (by rw [← payAt_drop _ _ hk]; exact q) ?_
    rw [List.drop_drop, ← Nat.add_assoc]
    exact ih hl
theorem WS.len {r : List Nat} {n : Nat} (h : WS r n) : 7 * n ≤ r.length := by
  induction h with
  | stop _ => omega
  | step q _ ih =>
    have := payAt_len q
    rw [List.length_drop] at ih
    omega
/-- a payload that the law draws -/
structure Good (p : List Nat) : Prop where
  len : p.length ≤ 300
  is : (∀ c ∈ p, c = 255) ∨ ∃ a s : Nat, s ≤ 4 ∧ ∀ j (h : j < p.length), p[j] = (a + s * j) % 256
def run1 : List Nat := (List.range 258).map fun j => (7 + j) % 256
theorem run1_at (j : Nat) (h : j < run1.length) : run1[j] = (7 + j) % 256 := by simp [run1]
theorem run1_no : chk run1 ≠ num [3, 4, 5, 6] := by decide +kernel
theorem take7 {r : List Nat} (h : 7 ≤ r.length) : r.take 3 = [r[0], r[1], r[2]] ∧ (r.take 7).drop 3 = [r[3], r[4], r[5], r[6]] := by
  match r, h with
  | a :: b :: c :: d :: e :: f :: g :: t, _ => exact ⟨rfl, rfl⟩
theorem good_in {p S q : List Nat} (g : Good p) {k : Nat} (hs : (p ++ S).length ≤ 60000) (h : payAt ((p ++ S).drop k) 0 = some q) : k + 7 + q.length > p.length := by
  refine Nat.lt_of_not_le fun hc => ?_
  have hR : ((p ++ S).drop k).length = (p ++ S).length - k := List.length_drop ..
  have hl := payAt_len h
  have hk7 : k + 7 ≤ p.length := by omega
  have hRl : 7 ≤ ((p ++ S).drop k).length := by omega
  have ix : ∀ j (hj : k + j < p.length) (hj2 : j < ((p ++ S).drop k).length), ((p ++ S).drop k)[j] = p[k + j] := fun j hj hj2 => by
    rw [List.getElem_drop, List.getElem_append_left hj]
  obtain ⟨t1, t2⟩ := take7 hRl
  unfold payAt at h
  simp only [Nat.zero_add, List.drop_zero] at h
  rw [t1, t2, ix 0 (by omega), ix 1 (by omega), ix 2 (by omega), ix 3 (by omega), ix 4 (by omega), ix 5 (by omega), ix 6 (by omega)] at h
  simp only [Nat.add_zero] at h
  rcases g.is with g1 | ⟨a, s, hs4, g1⟩
  · have e : ∀ j (hj : j < p.length), p[j] = 255 := fun j hj => g1 _ (List.getElem_mem hj)
    rw [e k (by omega), e (k + 1) (by omega), e (k + 2) (by omega)] at h
    rw [if_pos (by
      have : num [255, 255, 255] = 16777215 := by decide
      omega)] at h
    cases h
  · have e : ∀ j (hj : k + j < p.length), p[k + j] = (a + s * k + s * j) % 256 := fun j hj => by rw [g1 (k + j) hj, Nat.mul_add, Nat.add_assoc]
    have e0 := e 0 (by omega)
    simp only [Nat.add_zero, Nat.mul_zero] at e0
    generalize a + s * k = b at e e0
    have hlen := g.len
    have m : b % 256 = 0 ∨ 0 < b % 256 := by omega
    rcases m with m | m
    · have e' : ∀ j (hj : k + j < p.length), p[k + j] = (s * j) % 256 := fun j hj => by rw [e j hj, Nat.add_mod, m, Nat.zero_add, Nat.mod_mod]
      rw [e0, m, e' 1 (by omega), e' 2 (by omega), e' 3 (by omega), e' 4 (by omega), e' 5 (by omega), e' 6 (by omega)] at h
      split at h
      · cases h
      rename_i h1
      split at h
      · cases h
      rename_i h2
      have hq : q.length = num [0, s * 1 % 256, s * 2 % 256] := by
        have := Option.some.inj h
        rw [← this, List.length_drop, List.length_take]
        omega
      rcases (show s = 0 ∨ s = 1 ∨ s = 2 ∨ s = 3 ∨ s = 4 by omega) with rfl | rfl | rfl | rfl | rfl
      · have z : num [0, 0 * 1 % 256, 0 * 2 % 256] = 0 := by decide
        rw [z] at h2
        simp only [Nat.add_zero] at h2
        rw [List.drop_eq_nil_of_le (by rw [List.length_take]; omega)] at h2
        exact h2 (by decide)
      · have z : num [0, 1 * 1 % 256, 1 * 2 % 256] = 258 := by decide
        rw [z] at h2 hq
        refine run1_no ?_
        have e3 : (((p ++ S).drop k).take (7 + 258)).drop 7 = run1 := by
          refine List.ext_getElem ?_ fun j h3 h4 => ?_
          · rw [List.length_drop, List.length_take]
            show min (7 + 258) _ - 7 = 258
            omega
          · have hj : j < 258 := by
              rw [List.length_drop, List.length_take] at h3
              omega
            rw [List.getElem_drop, List.getElem_take, ix (7 + j) (by omega), e' (7 + j) (by omega)]
            rw [run1_at, Nat.one_mul]
        rw [e3] at h2
        have h5 : ¬ (chk run1 ≠ num [1 * 3 % 256, 1 * 4 % 256, 1 * 5 % 256, 1 * 6 % 256]) := h2
        have h6 : num [1 * 3 % 256, 1 * 4 % 256, 1 * 5 % 256, 1 * 6 % 256] = num [3, 4, 5, 6] := by decide
        rw [h6] at h5
        exact Classical.not_not.mp h5
      · have z : num [0, 2 * 1 % 256, 2 * 2 % 256] = 516 := by decide
        omega
      · have z : num [0, 3 * 1 % 256, 3 * 2 % 256] = 774 := by decide
        omega
      · have z : num [0, 4 * 1 % 256, 4 * 2 % 256] = 1032 := by decide
        omega
    · rw [e0] at h
      have z : num [b % 256, p[k + 1], p[k + 2]] ≥ 65536 := by
        simp only [num, List.foldl_cons, List.foldl_nil]
        omega
      rw [if_pos (by omega)] at h
      cases h
/-- a row of such: heads of seven, payloads -/
def str (bs : List (List Nat × List Nat)) : List Nat := bs.flatMap fun b => b.1 ++ b.2
theorem ws_nil {r : List Nat} {n : Nat} (h : WS r n) (e : r.length < 7) : n = 0 := by
  have := h.len
  omega
structure Gs (bs : List (List Nat × List Nat)) : Prop where
  hd : ∀ b ∈ bs, b.1.length = 7
  pl : ∀ b ∈ bs, Good b.2
theorem ws_few : ∀ (bs : List (List Nat × List Nat)), Gs bs →
    (∀ (p : List Nat) (k n : Nat), Good p → (p ++ str bs).length ≤ 60000 → WS ((p ++ str bs).drop k) n → n ≤ 2 * bs.length) ∧
    (∀ (k n : Nat), (str bs).length ≤ 60000 → WS ((str bs).drop k) n → n ≤ 2 * bs.length - 1)
  | [], _ => by
    refine ⟨fun p k n g hs h => ?_, fun k n hs h => ?_⟩
    · cases h with
      | stop q => exact Nat.zero_le _
      | step q w =>
        exfalso
        have h1 := good_in g hs q
        have h2 := payAt_len q
        rw [List.length_drop] at h2
        have : (p ++ str []).length = p.length := by
          show (p ++ []).length = _
          rw [List.append_nil]
        omega
    · have : n = 0 := ws_nil h (by
        show ((([] : List Nat)).drop k).length < 7
        simp)
      omega
  | b :: bs, G => by
    have G' : Gs bs := ⟨fun x hx => G.hd x (List.mem_cons_of_mem _ hx), fun x hx => G.pl x (List.mem_cons_of_mem _ hx)⟩
    obtain ⟨f, g⟩ := ws_few bs G'
    have e : str (b :: bs) = b.1 ++ (b.2 ++ str bs) := by
      show (b.1 ++ b.2) ++ str bs = _
      rw [List.append_assoc]
    have h7 := G.hd b List.mem_cons_self
    have hg := G.pl b List.mem_cons_self
    have H : ∀ (k n : Nat), (str (b :: bs)).length ≤ 60000 → WS ((str (b :: bs)).drop k) n → n ≤ 2 * (b :: bs).length - 1 := fun k n hs h => by
      rw [e] at hs h
      have hs2 : (b.2 ++ str bs).length ≤ 60000 := by
        rw [List.length_append] at hs
        omega
      have dr : ∀ j, 7 ≤ j → (b.1 ++ (b.2 ++ str bs)).drop j = (b.2 ++ str bs).drop (j - 7) := fun j hj => by
        rw [List.drop_append, List.drop_eq_nil_of_le (by omega), List.nil_append, h7]
      rw [List.length_cons]
      by_cases hk : 7 ≤ k
      · rw [dr k hk] at h
        have := f b.2 _ _ hg hs2 h
        omega
      · cases h with
        | stop q => exact Nat.zero_le _
        | step q w =>
          rw [List.drop_drop, dr _ (by omega)] at w
          have := f b.2 _ _ hg hs2 w
          omega
    refine ⟨fun p k n gp hs h => ?_, H⟩
    have hs2 : (str (b :: bs)).length ≤ 60000 := by
      rw [List.length_append] at hs
      omega
    have dr : ∀ j, p.length ≤ j → (p ++ str (b :: bs)).drop j = (str (b :: bs)).drop (j - p.length) := fun j hj => by
      rw [List.drop_append, List.drop_eq_nil_of_le hj, List.nil_append]
    have hb : (b :: bs).length = bs.length + 1 := rfl
    by_cases hk : p.length ≤ k
    · rw [dr k hk] at h
      have := H _ _ hs2 h
      omega
    · cases h with
      | stop q => exact Nat.zero_le _
      | step q w =>
        have hc := good_in gp hs q
        rw [List.drop_drop, dr _ (by omega)] at w
        have := H _ _ hs2 w
        omega
/-- frames, one behind another -/
def fstr (ps : List (List Nat)) : List Nat := ps.flatMap frm
theorem fstr_cons (p : List Nat) (ps : List (List Nat)) : fstr (p :: ps) = frm p ++ fstr ps := rfl
theorem frm_pay {p b : List Nat} (hp : p.length < 16777216) : payAt (frm p ++ b) 0 = some p := by
  have := payAt_frm (a := []) (b := b) hp
  simpa using this
theorem frm_len (p : List Nat) : (frm p).length = 7 + p.length := by
  show (hd7 p ++ p).length = _
  rw [List.length_append, hd7_len]
/-- whole frames ahead: as many -/
theorem ws_ahead : ∀ (ps : List (List Nat)) {r : List Nat} {n : Nat}, (∀ p ∈ ps, p.length < 16777216) → WS (fstr ps ++ r) n → ∃ m, WS r m ∧ n = ps.length + m
  | [], r, n, _, h => ⟨n, h, by simp⟩
  | p :: ps, r, n, hp, h => by
    have e : fstr (p :: ps) ++ r = frm p ++ (fstr ps ++ r) := by rw [fstr_cons, List.append_assoc]
    have h1 := frm_pay (b := fstr ps ++ r) (hp p List.mem_cons_self)
    rw [e] at h
    cases h with
    | stop q => rw [h1] at q; cases q
    | step q w =>
      rw [h1] at q
      cases q
      rw [← frm_len, List.drop_left] at w
      obtain ⟨m, w2, rfl⟩ := ws_ahead ps (fun x hx => hp x (List.mem_cons_of_mem _ hx)) w
      exact ⟨m, w2, by rw [List.length_cons]; omega⟩
/-- cut at a place -/
theorem ws_cut : ∀ (ps : List (List Nat)) {k n : Nat}, (∀ p ∈ ps, p.length < 16777216) → WS ((fstr ps).take k) n → n ≤ ps.length
  | [], k, n, _, h => by
    have := ws_nil h (by
      show (([] : List Nat).take k).length < 7
      simp)
    omega
  | p :: ps, k, n, hp, h => by
    have h0 := hp p List.mem_cons_self
    rw [fstr_cons] at h
    by_cases hk : 7 + p.length ≤ k
    · rw [List.take_append, List.take_of_length_le (by rw [frm_len]; exact hk), frm_len] at h
      cases h with
      | stop q => rw [frm_pay h0] at q; cases q
      | step q w =>
        rw [frm_pay h0] at q
        cases q
        rw [← frm_len, List.drop_left] at w
        have := ws_cut ps (fun x hx => hp x (List.mem_cons_of_mem _ hx)) w
        rw [List.length_cons]
        omega
    · cases h with
      | stop q => exact Nat.zero_le _
      | step q w =>
        exfalso
        have hl := payAt_len q
        rw [List.length_take] at hl
        have e3 : (((frm p ++ fstr ps).take k).take 3) = b3 p.length := by
          rw [List.take_take, Nat.min_eq_left (by omega)]
          rfl
        unfold payAt at q
        simp only [Nat.zero_add, List.drop_zero] at q
        rw [e3, num_b3 h0, if_pos (by rw [List.length_take]; omega)] at q
        cases q
/-- one octet is another one -/
theorem ws_set : ∀ (ps : List (List Nat)) {k c n : Nat}, (∀ p ∈ ps, Good p) → ps.length ≤ 5 → WS ((fstr ps).set k c) n → n ≤ 2 * ps.length - 1
  | ps, k, c, n, hg, h5, h => by
    have hlt : ∀ p ∈ ps, p.length < 16777216 := fun p hp => by have := (hg p hp).len; omega
    have key : ∀ (qs : List (List Nat)) (k : Nat), (∀ p ∈ qs, Good p) → qs.length ≤ 5 → ∀ n, WS ((fstr qs).set k c) n → n ≤ 2 * qs.length - 1 := fun qs => by
      induction qs with
      | nil =>
        intro k _ _ n h
        have := ws_nil h (by
          show (([] : List Nat).set k c).length < 7
          simp)
        omega
      | cons p qs ih =>
        intro k hg h5 n h
        have hgp := hg p List.mem_cons_self
        have hgq : ∀ x ∈ qs, Good x := fun x hx => hg x (List.mem_cons_of_mem _ hx)
        have hpl := hgp.len
        have hll : ∀ qs : List (List Nat), (∀ x ∈ qs, Good x) → (fstr qs).length ≤ 307 * qs.length := fun qs => by
          induction qs with
          | nil => intro _; exact Nat.le_refl _
          | cons x r ih2 =>
            intro hx
            rw [fstr_cons, List.length_append, frm_len, List.length_cons]
            have := (hx x List.mem_cons_self).len
            have := ih2 fun y hy => hx y (List.mem_cons_of_mem _ hy)
            omega
        have hl2 := hll qs hgq
        rw [List.length_cons] at h5 ⊢
        rw [fstr_cons] at h
        have cast : fstr qs = str (qs.map fun x => (hd7 x, x)) := by
          unfold fstr str
          rw [List.flatMap_map]
          rfl
        have Gq : Gs (qs.map fun x => (hd7 x, x)) := ⟨fun b hb => by
          obtain ⟨x, _, rfl⟩ := List.mem_map.mp hb
          rfl, fun b hb => by
          obtain ⟨x, hx, rfl⟩ := List.mem_map.mp hb
          exact hgq x hx⟩
        by_cases c1 : k < 7
        · have e : (frm p ++ fstr qs).set k c = str (((hd7 p).set k c, p) :: qs.map fun x => (hd7 x, x)) := by
            show ((hd7 p ++ p) ++ fstr qs).set k c = (((hd7 p).set k c) ++ p) ++ str (qs.map fun x => (hd7 x, x))
            rw [List.append_assoc, List.set_append_left _ _ (by rw [hd7_len]; exact c1), List.append_assoc, cast]
          rw [e] at h
          have Ga : Gs (((hd7 p).set k c, p) :: qs.map fun x => (hd7 x, x)) := ⟨fun b hb => by
            rcases List.mem_cons.mp hb with rfl | z
            · show ((hd7 p).set k c).length = 7
              rw [List.length_set, hd7_len]
            · exact Gq.hd b z, fun b hb => by
            rcases List.mem_cons.mp hb with rfl | z
            · exact hgp
            · exact Gq.pl b z⟩
          have := (ws_few _ Ga).2 0 n (by rw [← e, List.length_set, List.length_append, frm_len]; omega) (by rw [List.drop_zero]; exact h)
          rw [List.length_cons, List.length_map] at this
          omega
        · by_cases c2 : k < 7 + p.length
          · have e : (frm p ++ fstr qs).set k c = (hd7 p ++ p.set (k - 7) c) ++ fstr qs := by
              show ((hd7 p ++ p) ++ fstr qs).set k c = _
              rw [List.set_append_left _ _ (by rw [List.length_append, hd7_len]; exact c2), List.set_append_right _ _ (by rw [hd7_len]; omega), hd7_len]
            rw [e] at h
            cases h with
            | stop q => exact Nat.zero_le _
            | step q w =>
              rename_i p2 n2
              have hq : p2.length = p.length := by
                unfold payAt at q
                simp only [Nat.zero_add, List.drop_zero] at q
                have e3 : ((hd7 p ++ p.set (k - 7) c) ++ fstr qs).take 3 = b3 p.length := rfl
                rw [e3, num_b3 (by omega)] at q
                split at q
                · cases q
                · split at q
                  · cases q
                  · rename_i z _
                    rw [← Option.some.inj q, List.length_drop, List.length_take]
                    omega
              have e4 : ((hd7 p ++ p.set (k - 7) c) ++ fstr qs).drop (7 + p2.length) = fstr qs := by
                have : 7 + p2.length = (hd7 p ++ p.set (k - 7) c).length := by rw [List.length_append, hd7_len, List.length_set, hq]
                rw [this, List.drop_left]
              rw [e4] at w
              obtain ⟨m, w2, e5⟩ := ws_ahead (r := []) qs (fun x hx => by have := (hgq x hx).len; omega) (by rw [List.append_nil]; exact w)
              have := ws_nil w2 (by simp)
              omega
          · rw [List.set_append_right _ _ (by rw [frm_len]; omega), frm_len] at h
            cases h with
            | stop q => exact Nat.zero_le _
            | step q w =>
              rw [frm_pay (by omega)] at q
              cases q
              rw [← frm_len, List.drop_left] at w
              have := ih _ hgq (by omega) _ w
              omega
    exact key ps k hg h5 n h
end FR
namespace FR
open PySem PySem.Spec PyProof.Rows L2 DL PK SX
theorem whole_fstr : ∀ (ps : List (List Nat)) (a : List Nat), (∀ p ∈ ps, p.length < 16777216) → Whole (a ++ fstr ps) a.length ps (a ++ fstr ps).length
  | [], a, _ => by
    show Whole (a ++ []) a.length [] (a ++ []).length
    rw [List.append_nil]
    refine .stop ?_
    cases q : payAt a a.length with
    | none => rfl
    | some p => have := payAt_len q; omega
  | p :: ps, a, h => by
    have e : a ++ fstr (p :: ps) = (a ++ frm p) ++ fstr ps := by rw [fstr_cons, List.append_assoc]
    have h1 := payAt_frm (a := a) (p := p) (b := fstr ps) (h p List.mem_cons_self)
    have h2 := whole_fstr ps (a ++ frm p) fun x hx => h x (List.mem_cons_of_mem _ hx)
    rw [List.length_append, frm_len, ← Nat.add_assoc] at h2
    rw [e]
    rw [← List.append_assoc] at h1
    exact .step h1 h2
theorem fstr_len : ∀ ps : List (List Nat), (∀ p ∈ ps, p.length ≤ 300) → (fstr ps).length ≤ 307 * ps.length
  | [], _ => Nat.le_refl _
  | p :: ps, h => by
    rw [fstr_cons, List.length_append, frm_len, List.length_cons]
    have := h p List.mem_cons_self
    have := fstr_len ps fun x hx => h x (List.mem_cons_of_mem _ hx)
    omega
theorem b3_oct (n : Nat) : ∀ c ∈ b3 n, c < 256 := fun c hc => by
  simp only [b3, List.mem_cons, List.not_mem_nil, or_false] at hc
  omega
theorem b4_oct (n : Nat) : ∀ c ∈ b4 n, c < 256 := fun c hc => by
  simp only [b4, List.mem_cons, List.not_mem_nil, or_false] at hc
  omega
theorem frm_oct {p : List Nat} (h : ∀ c ∈ p, c < 256) : ∀ c ∈ frm p, c < 256 := fun c hc => by
  rcases List.mem_append.mp hc with q | q
  · rcases List.mem_append.mp q with q | q
    · exact b3_oct _ c q
    · exact b4_oct _ c q
  · exact h c q
theorem fstr_oct {ps : List (List Nat)} (h : ∀ p ∈ ps, ∀ c ∈ p, c < 256) : ∀ c ∈ fstr ps, c < 256 := fun c hc => by
  obtain ⟨p, hp, q⟩ := List.mem_flatMap.mp hc
  exact frm_oct (h p hp) c q
theorem fstr_snoc (ps : List (List Nat)) (p : List Nat) : fstr (ps ++ [p]) = fstr ps ++ frm p := by
  unfold fstr
  rw [List.flatMap_append, List.flatMap_singleton]
/-- what the law's reader looks at -/
theorem pay_short {l : List Nat} {k : Nat} (h : ((l.take (k + 7)).drop k).length < 7) (hk : k ≤ l.length) : payAt l k = none := by
  rw [List.length_drop, List.length_take] at h
  unfold payAt
  simp only
  rw [if_pos (by omega)]
theorem pay_read {l : List Nat} (h8 : ∀ c ∈ l, c < 256) {k a b c d e f g : Nat} (h : (l.take (k + 7)).drop k = [a, b, c, d, e, f, g]) : payAt l k = if k + 7 + (65536 * a + 256 * b + c) > l.length then none else
    if hd7 ((l.take (k + 7 + (65536 * a + 256 * b + c))).drop (k + 7)) ≠ [a, b, c, d, e, f, g] then none else some ((l.take (k + 7 + (65536 * a + 256 * b + c))).drop (k + 7)) := by
  have hm : ∀ x ∈ [a, b, c, d, e, f, g], x < 256 := fun x hx => h8 x (List.mem_of_mem_take (List.mem_of_mem_drop (h ▸ hx)))
  simp only [List.mem_cons, List.not_mem_nil, or_false, forall_eq_or_imp, forall_eq] at hm
  obtain ⟨ha, hb, hc, hd, he, hf, hg⟩ := hm
  rw [List.drop_take, show k + 7 - k = 7 by omega] at h
  have e1 : (l.take (k + 3)).drop k = [a, b, c] := by
    rw [List.drop_take, show k + 3 - k = 3 by omega]
    have : ((l.drop k).take 7).take 3 = (l.drop k).take 3 := by rw [List.take_take]; rfl
    rw [← this, h]
    rfl
  have e2 : (l.take (k + 7)).drop (k + 3) = [d, e, f, g] := by
    rw [List.drop_take, show k + 7 - (k + 3) = 4 by omega]
    have : ((l.drop k).take 7).drop 3 = ((l.drop (k + 3)).take 4) := by rw [List.drop_take, List.drop_drop]
    rw [← this, h]
    rfl
  have n1 : num [a, b, c] = 65536 * a + 256 * b + c := by
    simp only [num, List.foldl_cons, List.foldl_nil]
    omega
  have n2 : num [d, e, f, g] = 16777216 * d + 65536 * e + 256 * f + g := by
    simp only [num, List.foldl_cons, List.foldl_nil]
    omega
  unfold payAt
  simp only
  rw [e1, e2, n1]
  by_cases q : k + 7 + (65536 * a + 256 * b + c) > l.length
  · rw [if_pos q, if_pos q]
  rw [if_neg q, if_neg q]
  have hl : ((l.take (k + 7 + (65536 * a + 256 * b + c))).drop (k + 7)).length = 65536 * a + 256 * b + c := by
    rw [List.length_drop, List.length_take]
    omega
  generalize (l.take (k + 7 + (65536 * a + 256 * b + c))).drop (k + 7) = pd at hl ⊢
  have hck := chk_lt pd
  have key : (chk pd ≠ num [d, e, f, g]) ↔ (hd7 pd ≠ [a, b, c, d, e, f, g]) := by
    rw [n2]
    refine not_congr ?_
    unfold hd7
    rw [hl]
    generalize chk pd = ck at hck
    show _ ↔ [(65536 * a + 256 * b + c) / 65536 % 256, (65536 * a + 256 * b + c) / 256 % 256, (65536 * a + 256 * b + c) % 256, ck / 16777216 % 256, ck / 65536 % 256, ck / 256 % 256, ck % 256] = [a, b, c, d, e, f, g]
    simp only [List.cons.injEq, and_true]
    constructor
    · intro z
      refine ⟨?_, ?_, ?_, ?_, ?_, ?_, ?_⟩ <;> omega
    · rintro ⟨-, -, -, z1, z2, z3, z4⟩
      omega
  by_cases c1 : chk pd ≠ num [d, e, f, g]
  · rw [if_pos c1, if_pos (key.mp c1)]
  · rw [if_neg c1, if_neg fun z => c1 (key.mpr z)]
theorem ck2_snoc : ∀ (l : List Nat) (f c : Nat), ck2 f (l ++ [c]) = ck2 f l + (f + l.sum + c)
  | [], f, c => by simp [ck2]
  | x :: l, f, c => by
    rw [List.cons_append, ck2, ck2, ck2_snoc l (f + x) c, List.sum_cons]
    omega
/-- no more than nine -/
theorem whole_nine {ps qs : List (List Nat)} {l : List Nat} {e : Nat} (hg : ∀ p ∈ ps, Good p) (h5 : ps.length ≤ 5) (h : (∃ k, l = (fstr ps).take k) ∨ (∃ k c, l = (fstr ps).set k c) ∨ ∃ b, l = fstr ps ++ b ∧ b.length ≤ 20) (w : Whole l 0 qs e) : qs.length ≤ 9 := by
  have W := w.ws (Nat.zero_le _)
  rw [List.drop_zero] at W
  have hl : ∀ p ∈ ps, p.length < 16777216 := fun p hp => by have := (hg p hp).len; omega
  rcases h with ⟨k, rfl⟩ | ⟨k, c, rfl⟩ | ⟨b, rfl, hb⟩
  · have := ws_cut ps hl W
    omega
  · have := ws_set ps hg h5 W
    omega
  · obtain ⟨m, w2, e⟩ := ws_ahead ps hl W
    have := w2.len
    omega
end FR

set_option Elab.async false
set_option linter.all false
set_option maxRecDepth 100000
set_option maxHeartbeats 4000000
open PySem PySem.Spec PyProof.Rows L2 DL
set_option pp.maxSteps 800

namespace K10
def top (i : Nat) : Stmt := PySem.Challenge.pw_partmeet_k10_checks_and_frames.main.body.getD i (.Pass ⟨0, 0, 0, 0⟩)
abbrev s_check_of : Stmt := top 7
theorem sc_check_of : FnScope ["octets", "first", "second"] ["octets"] (defScope s_check_of) := ⟨rfl, rfl, rfl, by decide +kernel, rfl, by decide +kernel, by decide +kernel⟩
abbrev s_frame : Stmt := top 8
theorem sc_frame : FnScope ["payload"] ["payload"] (defScope s_frame) := ⟨rfl, rfl, rfl, by decide +kernel, rfl, by decide +kernel, by decide +kernel⟩
abbrev s_octets_of : Stmt := top 9
theorem sc_octets_of : FnScope ["number", "many", "place"] ["number", "many"] (defScope s_octets_of) := ⟨rfl, rfl, rfl, by decide +kernel, rfl, by decide +kernel, by decide +kernel⟩
abbrev s_number_of : Stmt := top 10
theorem sc_number_of : FnScope ["octets", "number", "octet"] ["octets"] (defScope s_number_of) := ⟨rfl, rfl, rfl, by decide +kernel, rfl, by decide +kernel, by decide +kernel⟩
abbrev s_whole_frames : Stmt := top 11
theorem sc_whole_frames : FnScope ["octets", "payloads", "taken", "payload"] ["octets"] (defScope s_whole_frames) := ⟨rfl, rfl, rfl, by decide +kernel, rfl, by decide +kernel, by decide +kernel⟩
abbrev s_payload_at : Stmt := top 12
theorem sc_payload_at : FnScope ["octets", "at", "begin", "end", "payload"] ["octets", "at"] (defScope s_payload_at) := ⟨rfl, rfl, rfl, by decide +kernel, rfl, by decide +kernel, by decide +kernel⟩
abbrev s_law_number : Stmt := top 14
theorem sc_law_number : FnScope ["script", "k", "cell", "first", "second"] ["script", "k"] (defScope s_law_number) := ⟨rfl, rfl, rfl, by decide +kernel, rfl, by decide +kernel, by decide +kernel⟩
abbrev s_law_take : Stmt := top 15
theorem sc_law_take : FnScope ["box", "size", "digit"] ["box", "size"] (defScope s_law_take) := ⟨rfl, rfl, rfl, by decide +kernel, rfl, by decide +kernel, by decide +kernel⟩
abbrev s_law_check : Stmt := top 16
theorem sc_law_check : FnScope ["octets", "total", "octet", "second", "first"] ["octets"] (defScope s_law_check) := ⟨rfl, rfl, rfl, by decide +kernel, rfl, by decide +kernel, by decide +kernel⟩
abbrev s_law_head : Stmt := top 17
theorem sc_law_head : FnScope ["payload", "count", "check", "row"] ["payload"] (defScope s_law_head) := ⟨rfl, rfl, rfl, by decide +kernel, rfl, by decide +kernel, by decide +kernel⟩
abbrev s_law_payload : Stmt := top 18
theorem sc_law_payload : FnScope ["box", "size", "first", "step", "k"] ["box"] (defScope s_law_payload) := ⟨rfl, rfl, rfl, by decide +kernel, rfl, by decide +kernel, by decide +kernel⟩
abbrev s_law_whole : Stmt := top 19
theorem sc_law_whole : FnScope ["octets", "found", "at", "k", "head", "end"] ["octets"] (defScope s_law_whole) := ⟨rfl, rfl, rfl, by decide +kernel, rfl, by decide +kernel, by decide +kernel⟩
abbrev s_law : Stmt := top 20
theorem sc_law : FnScope ["script", "box", "payloads", "k", "octets", "payload", "given", "kind", "at", "told"] ["script"] (defScope s_law) := ⟨rfl, rfl, rfl, by decide +kernel, rfl, by decide +kernel, by decide +kernel⟩
structure Glb (K : PySem.W.Frag) (mg : Str → Option Value) : Prop where
  sum : mg "sum" = none
  len : mg "len" = none
  reversed : mg "reversed" = none
  range : mg "range" = none
  int : mg "int" = none
  list : mg "list" = none
  isinstance : mg "isinstance" = none
  tuple : mg "tuple" = none
  c_CHECK_BASE : GC K mg "CHECK_BASE" (.int 65521)
  c_LENGTH_OCTETS : GC K mg "LENGTH_OCTETS" (.int 3)
  c_CHECK_OCTETS : GC K mg "CHECK_OCTETS" (.int 4)
  c_FRAME_HEAD : GC K mg "FRAME_HEAD" (.int 7)
  c_MOST_PAYLOAD : GC K mg "MOST_PAYLOAD" (.int 16777215)
  i_accumulate : mg "accumulate" = some (.type "itertools.accumulate")
end K10

local macro_rules | `(tactic| walk_at "nm") => `(tactic| first
  | refine de_const (by assumption) ?_)
local macro_rules | `(tactic| walk_at "cl") => `(tactic| first
  | ((with_reducible refine call_tag "len" ?_); refine de_callB "len" (by assumption) boot_len ?_)
  | ((with_reducible refine call_tag "isinstance" ?_); refine de_callB "isinstance" (by assumption) boot_isinstance ?_)
  | ((with_reducible refine call_tag "max" ?_); refine de_callB "max" (by assumption) boot_max ?_)
  | ((with_reducible refine call_tag "min" ?_); refine de_callB "min" (by assumption) boot_min ?_)
  | ((with_reducible refine call_tag "all" ?_); refine de_callB "all" (by assumption) boot_all ?_)
  | ((with_reducible refine call_tag "any" ?_); refine de_callB "any" (by assumption) boot_any ?_)
  | ((with_reducible refine call_tag "sorted" ?_); refine de_callB "sorted" (by assumption) boot_sorted ?_)
  | ((with_reducible refine call_tag "abs" ?_); refine de_callB "abs" (by assumption) boot_abs ?_)
  | ((with_reducible refine call_tag "ord" ?_); refine de_callB "ord" (by assumption) boot_ord ?_)
  | ((with_reducible refine call_tag "sum" ?_); refine de_callB "sum" (by assumption) boot_sum ?_)
  | ((with_reducible refine call_tag "int" ?_); refine de_callTy "int" (by assumption) PyProof.Rows.boot_int ?_)
  | ((with_reducible refine call_tag "str" ?_); refine de_callTy "str" (by assumption) boot_str ?_)
  | ((with_reducible refine call_tag "bool" ?_); refine de_callTy "bool" (by assumption) boot_bool ?_)
  | ((with_reducible refine call_tag "list" ?_); refine de_callTy "list" (by assumption) boot_list ?_)
  | ((with_reducible refine call_tag "tuple" ?_); refine de_callTy "tuple" (by assumption) boot_tuple ?_)
  | refine de_call (by assumption) (Room.mono (by assumption) (by decide)) ?_)
local macro_rules | `(tactic| walk_at "e1") => `(tactic| first
  | (show DE _ _ _ (.Name _ _) _; first | walk_at "nm" | ((with_reducible refine name_tag "int" ?_); refine de_ty (by assumption) PyProof.Rows.boot_int ?_) | ((with_reducible refine name_tag "str" ?_); refine de_ty (by assumption) boot_str ?_) | ((with_reducible refine name_tag "bool" ?_); refine de_ty (by assumption) boot_bool ?_) | ((with_reducible refine name_tag "list" ?_); refine de_ty (by assumption) boot_list ?_) | ((with_reducible refine name_tag "tuple" ?_); refine de_ty (by assumption) boot_tuple ?_))
  | (show DE _ _ _ (.Constant _ _ _) _; first | refine de_int ?_ | refine de_str ?_ | refine de_bl ?_ | refine de_non ?_)
  | refine de_bin ?_
  | (show DE _ _ _ (.Call _ _ _ _) _; walk_at "cl")
  | refine de_sl ?_
  | refine de_ix ?_
  | refine de_cmp ?_
  | refine de_not ?_
  | refine de_and ?_
  | refine de_or ?_
  | refine de_one ?_
  | refine de_tup ?_
  | refine de_lst ?_
  | refine de_un ?_
  | refine de_ifExp ?_
  | refine de_chain ?_)
local macro_rules | `(tactic| walk_at "t1") => `(tactic| first
  | refine dt_cmp ?_
  | refine dt_chain ?_
  | refine dt_not ?_
  | refine dt_w (dw_and ?_)
  | refine dt_w (dw_or ?_)
  | refine dt_val ?_)
local macro_rules | `(tactic| walk_at "w1") => `(tactic| first
  | refine dw_and ?_
  | refine dw_or ?_
  | refine dw_and1 ?_
  | refine dw_or1 ?_)
local macro_rules | `(tactic| walk_at "a1") => `(tactic| first
  | refine da_nil ?_
  | refine da_cons ?_)
local macro_rules | `(tactic| walk_at "hm") => `(tactic| first
  | (exact cmul_r (by decide)) | (exact cmul_l (by decide)) | (exact cmul_r (by omega)) | (exact cmul_l (by omega)) | assumption)
local macro_rules | `(tactic| walk_at "hd") => `(tactic| first
  | (exact cdivw (by decide) (by decide)) | assumption)
local macro_rules | `(tactic| walk_at "sz") => `(tactic| first
  | assumption | exact sz0 (by decide) | exact sz0 (by simp only [List.length_cons, List.length_nil]; omega) | exact sz0 (by omega) | exact sz0 (by first | (simp; done) | (simp; omega)))
local macro_rules | `(tactic| walk_at "sh") => `(tactic| first | assumption | exact shaped_vec _ | exact shaped_vecs _ | decide +kernel | rfl)
local macro_rules | `(tactic| walk_at "bi") => `(tactic| first
  | ((with_reducible show BinD _ (binaryOp .Add) _ _ _ _); first | refine b_add ?_ | (refine b_addS ?hl ?_; case hl => walk_at "sz") | (refine b_addT ?hl ?_; case hl => walk_at "sz") | (refine b_addL rdl rdl ?hl ?_; case hl => walk_at "sz"))
  | ((with_reducible show BinD _ (binaryOp .Sub) _ _ _ _); first | refine b_sub ?_)
  | ((with_reducible show BinD _ (binaryOp .Mult) _ _ _ _); first | (refine b_mul ?hc ?_; case hc => walk_at "hm"))
  | ((with_reducible show BinD _ (binaryOp .FloorDiv) _ _ _ _); first | (refine b_fdiv ?hc ?_; case hc => walk_at "hd"))
  | ((with_reducible show BinD _ (binaryOp .Mod) _ _ _ _); first | (refine b_mod ?hc ?_; case hc => first | decide | omega | assumption))
  | ((with_reducible show BinD _ (binaryOp .Pow) _ _ _ _); first | (refine b_pow ?hc ?_; case hc => exact cpow (by decide)))
  | ((with_reducible show BinD _ (compareOp .Lt) _ _ _ _); first | refine b_lt ?_)
  | ((with_reducible show BinD _ (compareOp .LtE) _ _ _ _); first | refine b_le ?_)
  | ((with_reducible show BinD _ (compareOp .Gt) _ _ _ _); first | refine b_gt ?_)
  | ((with_reducible show BinD _ (compareOp .GtE) _ _ _ _); first | refine b_ge ?_)
  | ((with_reducible show BinD _ (compareOp .Eq) _ _ _ _); first | refine b_eqI ?_ | refine b_eqS ?_ | refine b_eqB ?_ | (refine b_eq ?hu ?hd ?he ?_; (case hu => exact Room.units (by assumption)); (case hd => walk_at "sh"); (case he => walk_at "sh")))
  | ((with_reducible show BinD _ (compareOp .NotEq) _ _ _ _); first | refine b_neI ?_ | refine b_neS ?_ | refine b_neB ?_ | (refine b_ne ?hu ?hd ?he ?_; (case hu => exact Room.units (by assumption)); (case hd => walk_at "sh"); (case he => walk_at "sh")))
  | ((with_reducible show BinD _ (compareOp .Is) _ _ _ _); first | refine b_isN ?_)
  | ((with_reducible show BinD _ (compareOp .IsNot) _ _ _ _); first | refine b_isNn ?_)
  | ((with_reducible show BinD _ (compareOp .In) _ _ _ _); first | refine b_inS ?_ | (refine b_inF ?hd ?he ?_; (case hd => first | rfl | assumption); (case he => first | rfl | assumption)) | (refine b_inT ?hd ?he ?_; (case hd => first | rfl | assumption); (case he => first | rfl | assumption)) | (refine b_inL ?hu rdw rdw ?hd ?he ?_; (case hu => exact DL.Room.u65 (by assumption)); (case hd => walk_at "sh"); (case he => walk_at "sh")) | (refine b_inTD ?hu ?hd ?he ?_; (case hu => exact DL.Room.u65 (by assumption)); (case hd => walk_at "sh"); (case he => walk_at "sh")))
  | ((with_reducible show BinD _ (compareOp .NotIn) _ _ _ _); first | refine b_niS ?_ | (refine b_niF ?hd ?he ?_; (case hd => first | rfl | assumption); (case he => first | rfl | assumption)) | (refine b_niT ?hd ?he ?_; (case hd => first | rfl | assumption); (case he => first | rfl | assumption)) | (refine b_niL ?hu rdw rdw ?hd ?he ?_; (case hu => exact DL.Room.u65 (by assumption)); (case hd => walk_at "sh"); (case he => walk_at "sh")) | (refine b_niTD ?hu ?hd ?he ?_; (case hu => exact DL.Room.u65 (by assumption)); (case hd => walk_at "sh"); (case he => walk_at "sh"))))
local macro_rules | `(tactic| walk_at "ca") => `(tactic| first
  | refine c_lenT ?_
  | (refine c_lenS ?hl ?_; case hl => walk_at "sz")
  | refine c_lenR rdw ?_
  | refine c_lenR rds ?_
  | refine c_isInt ?_
  | refine c_isBool ?_
  | refine c_isStr ?_
  | refine c_isTup ?_
  | refine c_isList ?_
  | refine c_int ?_
  | refine c_intB ?_
  | refine c_max2 rfl ?_
  | refine c_min2 rfl ?_
  | refine c_abs ?_
  | refine c_ord ?_
  | refine c_list rdl ?_
  | refine c_listT ?_
  | refine c_tup rdl ?_
  | refine c_tupT ?_
  | (refine DY.c_max2T rfl ?hu ?_; case hu => exact Room.units (by assumption))
  | (refine DY.c_min2T rfl ?hu ?_; case hu => exact Room.units (by assumption)))
local macro_rules | `(tactic| walk_at "ix") => `(tactic| first
  | ((with_reducible show IxD _ _ (W.d (PyData.int (@OfNat.ofNat Int _ _))) _ _); first | refine ix_t rfl ?_ | refine ix_l rdl rfl ?_ | refine ix_s (by walk_at "sz") rfl ?_ | refine ix_l rdl at0 ?_ | refine ix_t at0 ?_)
  | refine ix_t (by with_reducible assumption) ?_ | refine ix_l rdl (by with_reducible assumption) ?_
  | ((with_reducible show IxD _ _ (W.d (PyData.int (@Nat.cast Int _ (@OfNat.ofNat Nat _ _)))) _ _); first | refine ix_t rfl ?_ | refine ix_l rdl rfl ?_ | refine ix_s (by walk_at "sz") rfl ?_)
  | refine ix_s (by walk_at "sz") (by with_reducible assumption) ?_)
local macro_rules | `(tactic| walk_at "sl") => `(tactic| first
  | refine sl_t ?_
  | (refine sl_s ?hl ?_; case hl => walk_at "sz")
  | refine sl_l rdl ?_)
local macro_rules | `(tactic| walk_at "p1") => `(tactic| first
  | refine tb_i ?_
  | refine toI_i ?_
  | (refine ⟨_, rfl, ?hl, ?_⟩; case hl => walk_at "sz")
  | refine call_pre rfl ?_
  | refine pf1_i trivial ?_
  | refine pf2_i trivial ?_
  | refine pf3_i trivial ?_
  | walk_at "if")
local macro_rules | `(tactic| walk_at "if") => `(tactic| first
  | refine if_t rfl ?_ | refine if_f rfl ?_ | refine if_t (by assumption) ?_ | refine if_f (by assumption) ?_ | (refine if_dt ?hc ?_; case hc => first | with_reducible rfl | assumption | omega) | (refine if_df ?hc ?_; case hc => first | with_reducible rfl | assumption | omega) | (refine if_nt ?hc ?_; case hc => first | with_reducible rfl | assumption | omega) | (refine if_nf ?hc ?_; case hc => first | with_reducible rfl | assumption | omega))
local macro_rules | `(tactic| walk_at "s1") => `(tactic| first
  | refine dss_nil ?_
  | refine dss_one ?_
  | refine dss_cons ?_)
local macro_rules | `(tactic| walk_at "s2") => `(tactic| first
  | walk_at "as"
  | refine ds_ret ?_
  | refine ds_sub ?_
  | refine ds_if ?_
  | refine ds_expr ?_
  | refine ds_pass ?_
  | refine ds_retN ?_
  | refine ds_doc ?_
  | refine ds_break ?_
  | refine ds_continue ?_)
local macro_rules | `(tactic| walk_at "as") => `(tactic| (show DS _ _ _ (.Assign [.Name _ _] _ _) _; first
  | refine ds_asg 0 ?_ (by assumption) | refine ds_asg 1 ?_ (by assumption) | refine ds_asg 2 ?_ (by assumption) | refine ds_asg 3 ?_ (by assumption) | refine ds_asg 4 ?_ (by assumption) | refine ds_asg 5 ?_ (by assumption) | refine ds_asg 6 ?_ (by assumption) | refine ds_asg 7 ?_ (by assumption) | refine ds_asg 8 ?_ (by assumption) | refine ds_asg 9 ?_ (by assumption) | refine ds_asg 10 ?_ (by assumption) | refine ds_asg 11 ?_ (by assumption) | refine ds_asg 12 ?_ (by assumption) | refine ds_asg 13 ?_ (by assumption) | refine ds_asg 14 ?_ (by assumption) | refine ds_asg 15 ?_ (by assumption) | refine ds_asg 16 ?_ (by assumption) | refine ds_asg 17 ?_ (by assumption) | refine ds_asg 18 ?_ (by assumption) | refine ds_asg 19 ?_ (by assumption)))
local macro_rules | `(tactic| walk_at "dl") => `(tactic| first
  | (show DE _ _ _ _ _; walk_at "e1")
  | (show BinD _ _ _ _ _ _; walk_at "bi")
  | (show DA _ _ _ _ _; walk_at "a1")
  | (show CallD _ _ _ _ _; walk_at "ca")
  | (show DSs _ _ _ _ _; (try walk_at "tn"); walk_at "s1")
  | (show DS _ _ _ _ _; walk_at "s2")
  | (show DT _ _ _ _ _; walk_at "t1")
  | (show DWh _ _ _ _ _; walk_at "w1")
  | (show IxD _ _ _ _ _; walk_at "ix")
  | (show SlD _ _ _ _ _ _; walk_at "sl")
  | (show DPa _ _ _ _ _; first | refine dpa_none ?_ | refine dpa_some ?_)
  | (show UnD _ _ _ _ _; refine u_neg ?_)
  | walk_at "p1")
local macro_rules | `(tactic| walk_at "d1") => `(tactic| first
  | (show DE _ _ _ _ _; walk_at "e1")
  | (show BinD _ _ _ _ _ _; walk_at "bi")
  | (show DA _ _ _ _ _; walk_at "a1")
  | (show CallD _ _ _ _ _; walk_at "ca")
  | (show DS _ _ _ _ _; walk_at "s2")
  | (show DT _ _ _ _ _; walk_at "t1")
  | (show DWh _ _ _ _ _; walk_at "w1")
  | (show IxD _ _ _ _ _; walk_at "ix")
  | (show SlD _ _ _ _ _ _; walk_at "sl")
  | (show DPa _ _ _ _ _; first | refine dpa_none ?_ | refine dpa_some ?_)
  | (show UnD _ _ _ _ _; refine u_neg ?_)
  | walk_at "p1")
local macro_rules | `(tactic| walk_at "go") => `(tactic| repeat (walk_at "dl"))
local macro_rules | `(tactic| walk_at "st") => `(tactic| ((try walk_at "tn"); refine dss_cons ?_; repeat (walk_at "d1")))
local macro_rules | `(tactic| walk_at "ar") => `(tactic| repeat (first | (show DE _ _ _ _ _; walk_at "e1") | (show DA _ _ _ _ _; walk_at "a1") | walk_at "p1"))
local macro_rules | `(tactic| walk_at "ao") => `(tactic| repeat (first | refine de_lstO ?_ | (show DE _ _ _ _ _; walk_at "e1") | (show DA _ _ _ _ _; walk_at "a1") | walk_at "p1"))

namespace K10
open PK SX
section
variable {P : Program} {w : World} {K : PySem.W.Frag} {mg : Str → Option Value} {base : Heap} {f : Addr} {fd : FuncData}
section
local macro_rules | `(tactic| walk_at "nm") => `(tactic| first
  | ((with_reducible refine name_tag "script" ?_); refine de_name 0 rfl ?_)
  | ((with_reducible refine name_tag "k" ?_); refine de_name 1 rfl ?_)
  | ((with_reducible refine name_tag "cell" ?_); refine de_name 2 rfl ?_)
  | ((with_reducible refine name_tag "first" ?_); refine de_name 3 rfl ?_)
  | ((with_reducible refine name_tag "second" ?_); refine de_name 4 rfl ?_))
local macro_rules | `(tactic| walk_at "tn") => `(tactic| show DSs _ [_, _, _, _, _] _ _ _)
theorem ok_law_number (F : Fun K "_law_number" "_law_number" s_law_number f fd) (G : Glb K mg) : FnOk P w K mg base CX0 1 f fd ["script", "k"] (spD K 2 pNumber) := by
  refine fn_dl F sc_law_number fun cdv A outer s H E hr ws O Q hl hp => ?_
  obtain ⟨ns, k, rfl, hn, hk0, hk1, hp⟩ := hp
  have nd := sc_law_number.nd
  obtain ⟨g1, g2, g3, g4, g5, g6, g7, g8, g9, g10, g11, g12, g13, g14⟩ := G
  walk_at "st"
  refine dss_mid (fun τ' O' => O' = O ∧ ∃ c : Int, τ' = [some (.s (.list (ns.map .int))), some (.d (.int k)), some (.d (.int c)), none, none]) ?_ ?_
  · walk_at "go"
    refine if_d2 (fun h => ?_) (fun h => ?_)
    · walk_at "go"
      refine ix_script (at_intsS (Int.emod_nonneg _ (by omega)) (by rw [List.length_map] at h ⊢; exact Int.emod_lt_of_pos _ h)) ?_
      walk_at "go"
      exact ⟨rfl, _, rfl⟩
    · walk_at "go"
      exact ⟨rfl, 0, rfl⟩
  rintro τ' O' ⟨rfl, c, rfl⟩
  refine dss_mid (fun τ' O'' => O'' = O' ∧ ∃ c : Int, τ' = [some (.s (.list (ns.map .int))), some (.d (.int k)), some (.d (.int c)), none, none]) ?_ ?_
  · walk_at "go"
    refine if_d2 (fun h => ?_) (fun h => ?_)
    · walk_at "go"
      exact ⟨rfl, _, rfl⟩
    · walk_at "go"
      exact ⟨rfl, c, rfl⟩
  rintro τ' O'' ⟨rfl, c, rfl⟩
  refine dss_mid (fun τ' O' => O' = O'' ∧ τ' = [some (.s (.list (ns.map .int))), some (.d (.int k)), some (.d (.int c)), none, none]) ?_ ?_
  · walk_at "go"
    refine if_d2 (fun h => ?_) (fun h => ?_)
    · walk_at "go"
      refine if_d2 (fun h => ?_) (fun h => ?_)
      · walk_at "go"
        exact hp _
      · walk_at "go"
        exact ⟨rfl, rfl⟩
    · walk_at "go"
      exact ⟨rfl, rfl⟩
  rintro τ' O' ⟨rfl, rfl⟩
  walk_at "go"
  exact hp _
end

section
local macro_rules | `(tactic| walk_at "nm") => `(tactic| first
  | ((with_reducible refine name_tag "box" ?_); refine de_name 0 rfl ?_)
  | ((with_reducible refine name_tag "size" ?_); refine de_name 1 rfl ?_)
  | ((with_reducible refine name_tag "digit" ?_); refine de_name 2 rfl ?_))
local macro_rules | `(tactic| walk_at "tn") => `(tactic| show DSs _ [_, _, _] _ _ _)
theorem ok_law_take (F : Fun K "_law_take" "_law_take" s_law_take f fd) (G : Glb K mg) : FnOk P w K mg base CX0 1 f fd ["box", "size"] (spD K 2 pTake) := by
  refine fn_dl F sc_law_take fun cdv A outer s H E hr ws O Q hl hp => ?_
  obtain ⟨j, p, n, z, rfl, hb, hz0, hz1, hp⟩ := hp
  have nd := sc_law_take.nd
  obtain ⟨g1, g2, g3, g4, g5, g6, g7, g8, g9, g10, g11, g12, g13, g14⟩ := G
  walk_at "go"
  refine ix_l (rdlo j hb) at0 ?_
  walk_at "go"
  refine ix_l (rdlo j hb) at0 ?_
  walk_at "go"
  refine b_fdiv (cdivw hz0 (Nat.lt_of_lt_of_le (show z.natAbs < 2 ^ 63 by omega) (by decide))) ?_
  walk_at "go"
  refine ⟨p, j, _, 0, 0, _, rfl, rfl, rfl, hb, rfl, ?_⟩
  walk_at "go"
  exact hp
end

end
end K10

namespace K10
open PK SX
section
variable {P : Program} {w : World} {K : PySem.W.Frag} {mg : Str → Option Value} {base : Heap} {f : Addr} {fd : FuncData}
/-! ### frames -/
abbrev p_chk : Pre := fun ws O P => ∃ l : List Nat, ws = [.d (octD l)] ∧ P (.d (.int (FR.chk l))) O
theorem chk_i {l : List Nat} {O : Own} {P : DL.W → Own → Prop} (h : P (.d (.int (FR.chk l))) O) : p_chk [.d (octD l)] O P := ⟨l, rfl, h⟩
theorem oct_ints (l : List Nat) : (l.map fun (c : Nat) => PyData.int c) = (l.map fun (c : Nat) => (c : Int)).map PyData.int := by rw [List.map_map]; rfl
theorem sum_cast : ∀ l : List Nat, (l.map fun (c : Nat) => (c : Int)).sum = (l.sum : Nat)
  | [] => rfl
  | c :: r => by rw [List.map_cons, List.sum_cons, List.sum_cons, sum_cast r, Int.natCast_add]
section
local macro_rules | `(tactic| walk_at "nm") => `(tactic| first
  | ((with_reducible refine name_tag "octets" ?_); refine de_name 0 rfl ?_)
  | ((with_reducible refine name_tag "first" ?_); refine de_name 1 rfl ?_)
  | ((with_reducible refine name_tag "second" ?_); refine de_name 2 rfl ?_))
local macro_rules | `(tactic| walk_at "tn") => `(tactic| show DSs _ [_, _, _] _ _ _)
theorem ok_check_of (F : Fun K "check_of" "check_of" s_check_of f fd) (G : Glb K mg) : FnOk P w K mg base CX0 1 f fd ["octets"] (spD K 1 p_chk) := by
  refine fn_dl F sc_check_of fun cdv A outer s H E hr ws O Q hl hp => ?_
  obtain ⟨l, rfl, hp⟩ := hp
  have nd := sc_check_of.nd
  obtain ⟨g1, g2, g3, g4, g5, g6, g7, g8, g9, g10, g11, g12, g13, g14⟩ := G
  refine dss_cons (ds_asg 1 ?_ nd)
  repeat (walk_at "d1")
  refine c_sum (ns := l.map fun (c : Nat) => (c : Int)) rfl (by rw [← oct_ints]; exact rdl) ?_
  rw [sum_cast]
  repeat (walk_at "d1")
  show DSs _ _ _ _ _
  refine dss_cons (ds_asg 2 ?_ nd)
  refine de_bin ?_
  walk_at "e1"
  repeat (walk_at "a1")
  walk_at "nm"
  repeat (walk_at "a1")
  walk_at "ca"
  refine de_sumAcc rfl (by assumption) (by assumption) (de_name 0 rfl ⟨l.map fun (c : Nat) => (c : Int), by rw [← oct_ints]; exact rdl, ?_⟩)
  rw [FR.accSum_eq, List.length_map]
  refine b_add ?_
  rw [FR.ck2_acc l 1 0 rfl]
  show DSs _ _ _ _ _
  walk_at "go"
  have e : (1 + ((l.sum : Nat) : Int)) % 65521 + 65536 * (((FR.ck2 1 l : Nat) : Int) % 65521) = ((FR.chk l : Nat) : Int) := by
    unfold FR.chk
    omega
  rw [e]
  exact hp
end
abbrev p_oof : Pre := fun ws O P => ∃ (n many : Nat), ws = [.d (.int n), .d (.int many)] ∧ many ≤ 100 ∧ P (.d (octD ((List.range many).reverse.map fun p => n / 2 ^ (8 * p) % 256))) O
theorem oof_i {n many : Nat} {O : Own} {P : DL.W → Own → Prop} (h1 : many ≤ 100) (h : P (.d (octD ((List.range many).reverse.map fun p => n / 2 ^ (8 * p) % 256))) O) : p_oof [.d (.int n), .d (.int many)] O P := ⟨n, many, rfl, h1, h⟩
def mskF (n : Nat) : PyData → PyData
  | .int p => .int ((n / 2 ^ (8 * p.toNat) % 256 : Nat) : Int)
  | d => d
section
local macro_rules | `(tactic| walk_at "nm") => `(tactic| first
  | ((with_reducible refine name_tag "number" ?_); refine de_name 0 rfl ?_)
  | ((with_reducible refine name_tag "many" ?_); refine de_name 1 rfl ?_)
  | ((with_reducible refine name_tag "place" ?_); refine de_name 2 rfl ?_))
local macro_rules | `(tactic| walk_at "tn") => `(tactic| show DSs _ [_, _, _] _ _ _)
theorem ok_octets_of (F : Fun K "octets_of" "octets_of" s_octets_of f fd) (G : Glb K mg) : FnOk P w K mg base CX0 1 f fd ["number", "many"] (spD K 2 p_oof) := by
  refine fn_dl F sc_octets_of fun cdv A outer s H E hr ws O Q hl hp => ?_
  obtain ⟨n, many, rfl, h1, hp⟩ := hp
  have nd := sc_octets_of.nd
  obtain ⟨g1, g2, g3, g4, g5, g6, g7, g8, g9, g10, g11, g12, g13, g14⟩ := G
  refine dss_one (ds_ret ?_)
  refine de_lc1 2 nd (blkOk_by (N := ["number", "many", "place"]) (sc := defScope s_octets_of) (by decide +kernel)) (it_revR1 (by assumption) (by assumption) (de_name 1 rfl ⟨many, rfl, by omega, by omega, ?_⟩))
  refine lcd_map (mskF n) (by rw [List.length_reverse, rangeD_len, sizeLine_eq]; omega) (fun i d hd => ?_) (fun p => ?_)
  · have hm := List.mem_of_getElem? hd
    rw [List.mem_reverse] at hm
    obtain ⟨k, -, rfl⟩ : ∃ k : Nat, k < many ∧ d = .int k := by
      unfold rangeD at hm
      obtain ⟨k, hk, e⟩ := List.mem_map.mp hm
      exact ⟨k, by simpa using hk, by rw [← e, Int.zero_add]⟩
    refine ⟨_, tgok_name 2 (by decide), fun p acc s H C cl fp => ?_⟩
    walk_at "go"
    rw [show (8 : Int) * ((k : Nat) : Int) = ((8 * k : Nat) : Int) by omega]
    refine b_shr (8 * k) ?_
    walk_at "go"
    refine b_mask 8 (by decide) ?_
    refine ⟨?_, rfl⟩
    show DL.W.d (.int _) = .d (.int _)
    congr 2
  have e : (rangeD 0 ((many : Nat) : Int).toNat).reverse.map (mskF n) = ((List.range many).reverse.map fun p => n / 2 ^ (8 * p) % 256).map fun (c : Nat) => PyData.int c := by
    rw [show ((many : Nat) : Int).toNat = many by omega]
    unfold rangeD
    rw [← List.map_reverse, List.map_map, List.map_map]
    refine List.map_congr_left fun k _ => ?_
    show mskF n (.int (0 + ((k : Nat) : Int))) = _
    rw [Int.zero_add]
    rfl
  rw [e]
  exact hp
end
theorem oof3 (n : Nat) : ((List.range 3).reverse.map fun p => n / 2 ^ (8 * p) % 256) = FR.b3 n := by
  show [n / 65536 % 256, n / 256 % 256, n / 1 % 256] = FR.b3 n
  rw [Nat.div_one]
  rfl
theorem oof4 (n : Nat) : ((List.range 4).reverse.map fun p => n / 2 ^ (8 * p) % 256) = FR.b4 n := by
  show [n / 16777216 % 256, n / 65536 % 256, n / 256 % 256, n / 1 % 256] = FR.b4 n
  rw [Nat.div_one]
  rfl
theorem oct_app (a b : List Nat) : (a.map fun (c : Nat) => PyData.int c) ++ (b.map fun (c : Nat) => PyData.int c) = (a ++ b).map fun (c : Nat) => PyData.int c := List.map_append.symm
abbrev p_frame : Pre := fun ws O P => ∃ l : List Nat, ws = [.d (octD l)] ∧ l.length ≤ 10000000 ∧ P (.d (octD (FR.frm l))) O
theorem frame_i {l : List Nat} {O : Own} {P : DL.W → Own → Prop} (h1 : l.length ≤ 10000000) (h : P (.d (octD (FR.frm l))) O) : p_frame [.d (octD l)] O P := ⟨l, rfl, h1, h⟩
section
local macro_rules | `(tactic| walk_at "nm") => `(tactic| first
  | ((with_reducible refine name_tag "payload" ?_); refine de_name 0 rfl ?_))
local macro_rules | `(tactic| walk_at "tn") => `(tactic| show DSs _ [_] _ _ _)
theorem ok_frame (F : Fun K "frame" "frame" s_frame f fd) (G : Glb K mg) (d1 : Def P w K mg base 1 "octets_of" 2 p_oof) (d2 : Def P w K mg base 1 "check_of" 1 p_chk) : FnOk P w K mg base CX0 2 f fd ["payload"] (spD K 1 p_frame) := by
  refine fn_dl F sc_frame fun cdv A outer s H E hr ws O Q hl hp => ?_
  obtain ⟨l, rfl, h1, hp⟩ := hp
  have nd := sc_frame.nd
  obtain ⟨g1, g2, g3, g4, g5, g6, g7, g8, g9, g10, g11, g12, g13, g14⟩ := G
  walk_at "go"
  rw [List.length_map]
  refine oof_i (many := 3) (by decide) ?_
  walk_at "go"
  refine chk_i ?_
  walk_at "go"
  refine oof_i (many := 4) (by decide) ?_
  rw [oof3, oof4]
  have z1 : (FR.b3 l.length).length = 3 := rfl
  have z2 : (FR.b4 (FR.chk l)).length = 4 := rfl
  refine b_addL rdl rdl (by rw [List.length_map, List.length_map, sizeLine_eq]; omega) ?_
  rw [oct_app]
  walk_at "nm"
  refine b_addL rdl rdl (by rw [List.length_map, List.length_map, List.length_append, sizeLine_eq]; omega) ?_
  rw [oct_app]
  exact hp
end
abbrev p_num : Pre := fun ws O P => ∃ l : List Nat, ws = [.d (octD l)] ∧ l.length ≤ 100 ∧ P (.d (.int (FR.num l))) O
theorem num_i {l : List Nat} {O : Own} {P : DL.W → Own → Prop} (h1 : l.length ≤ 100) (h : P (.d (.int (FR.num l))) O) : p_num [.d (octD l)] O P := ⟨l, rfl, h1, h⟩
section
local macro_rules | `(tactic| walk_at "nm") => `(tactic| first
  | ((with_reducible refine name_tag "octets" ?_); refine de_name 0 rfl ?_)
  | ((with_reducible refine name_tag "number" ?_); refine de_name 1 rfl ?_)
  | ((with_reducible refine name_tag "octet" ?_); refine de_name 2 rfl ?_))
local macro_rules | `(tactic| walk_at "tn") => `(tactic| show DSs _ [_, _, _] _ _ _)
theorem ok_number_of (F : Fun K "number_of" "number_of" s_number_of f fd) (G : Glb K mg) : FnOk P w K mg base CX0 1 f fd ["octets"] (spD K 1 p_num) := by
  refine fn_dl F sc_number_of fun cdv A outer s H E hr ws O Q hl hp => ?_
  obtain ⟨l, rfl, h1, hp⟩ := hp
  have nd := sc_number_of.nd
  obtain ⟨g1, g2, g3, g4, g5, g6, g7, g8, g9, g10, g11, g12, g13, g14⟩ := G
  refine dss_cons (ds_asg 1 ?_ nd)
  repeat (walk_at "d1")
  show DSs _ _ _ _ _
  refine dss_cons (ds_for (it_list ?_))
  walk_at "go"
  refine ⟨_, rfl, fun i τ' O' => O' = O ∧ ∃ x : Option DL.W, τ' = [some (.d (octD l)), some (.d (.int (FR.num (l.take i)))), x], ⟨rfl, none, rfl⟩, ?_, ?_⟩
  · rintro i d τ' O' hd ⟨rfl, x, rfl⟩
    rw [List.getElem?_map] at hd
    cases e : l[i]? with
    | none => rw [e] at hd; cases hd
    | some c =>
      rw [e] at hd
      cases hd
      refine dtg_name 2 ?_ nd
      have e2 : FR.num (l.take (i + 1)) = FR.num (l.take i) * 256 + c := by
        unfold FR.num
        rw [List.take_succ, e]
        simp
      have e3 : ((FR.num (l.take i) : Nat) : Int) * 256 + (c : Int) = ((FR.num (l.take (i + 1)) : Nat) : Int) := by
        rw [e2]
        push_cast
        rfl
      walk_at "go"
      rw [e3]
      exact ⟨rfl, _, rfl⟩
  rintro τ' O' ⟨rfl, x, rfl⟩
  rw [List.length_map, List.take_length]
  walk_at "go"
  exact hp
end
abbrev p_pay : Pre := fun ws O P => ∃ (l : List Nat) (at_ : Nat), ws = [.d (octD l), .d (.int at_)] ∧ l.length ≤ 10000000 ∧ P (.d (match FR.payAt l at_ with | none => .none | some p => octD p)) O
theorem pay_i {l : List Nat} {at_ : Nat} {O : Own} {P : DL.W → Own → Prop} (h1 : l.length ≤ 10000000) (h : P (.d (match FR.payAt l at_ with | none => .none | some p => octD p)) O) : p_pay [.d (octD l), .d (.int at_)] O P := ⟨l, at_, rfl, h1, h⟩
theorem oct_cut (l : List Nat) {i j : Int} (a b : Nat) (ha : i = a) (hb : j = b) : cutL (l.map fun (c : Nat) => PyData.int c) (some i) (some j) = ((l.take b).drop a).map fun (c : Nat) => PyData.int c := by
  subst ha hb
  rw [cutL_mid (by omega) (by omega), ← List.map_take, ← List.map_drop]
  rfl
section
local macro_rules | `(tactic| walk_at "nm") => `(tactic| first
  | ((with_reducible refine name_tag "octets" ?_); refine de_name 0 rfl ?_)
  | ((with_reducible refine name_tag "at" ?_); refine de_name 1 rfl ?_)
  | ((with_reducible refine name_tag "begin" ?_); refine de_name 2 rfl ?_)
  | ((with_reducible refine name_tag "end" ?_); refine de_name 3 rfl ?_)
  | ((with_reducible refine name_tag "payload" ?_); refine de_name 4 rfl ?_))
local macro_rules | `(tactic| walk_at "tn") => `(tactic| show DSs _ [_, _, _, _, _] _ _ _)
theorem ok_payload_at (F : Fun K "payload_at" "payload_at" s_payload_at f fd) (G : Glb K mg) (d1 : Def P w K mg base 1 "number_of" 1 p_num) (d2 : Def P w K mg base 1 "check_of" 1 p_chk) : FnOk P w K mg base CX0 2 f fd ["octets", "at"] (spD K 2 p_pay) := by
  refine fn_dl F sc_payload_at fun cdv A outer s H E hr ws O Q hl hp => ?_
  obtain ⟨l, at_, rfl, h1, hp⟩ := hp
  have nd := sc_payload_at.nd
  obtain ⟨g1, g2, g3, g4, g5, g6, g7, g8, g9, g10, g11, g12, g13, g14⟩ := G
  walk_at "go"
  rw [oct_cut l at_ (at_ + 3) rfl (by omega)]
  refine num_i (by rw [List.length_drop, List.length_take]; omega) ?_
  unfold FR.payAt at hp
  simp only at hp
  generalize he : at_ + 7 + FR.num ((l.take (at_ + 3)).drop at_) = e at hp
  walk_at "go"
  rw [show ((at_ : Nat) : Int) + 7 + ((FR.num ((l.take (at_ + 3)).drop at_) : Nat) : Int) = ((e : Nat) : Int) by omega]
  by_cases h2 : e > l.length
  · rw [if_pos h2] at hp
    have h2' : ((e : Nat) : Int) > (((l.map fun (c : Nat) => PyData.int c).length : Nat) : Int) := by rw [List.length_map]; omega
    walk_at "go"
    exact hp
  rw [if_neg h2] at hp
  have h2' : ¬ ((e : Nat) : Int) > (((l.map fun (c : Nat) => PyData.int c).length : Nat) : Int) := by rw [List.length_map]; omega
  walk_at "go"
  rw [oct_cut l (at_ + 7) e (by omega) rfl]
  generalize hpd : (l.take e).drop (at_ + 7) = pd at hp
  walk_at "go"
  refine chk_i ?_
  walk_at "go"
  rw [oct_cut l (at_ + 3) (at_ + 7) (by omega) (by omega)]
  refine num_i (by rw [List.length_drop, List.length_take]; omega) ?_
  by_cases h3 : FR.chk pd = FR.num ((l.take (at_ + 7)).drop (at_ + 3))
  · rw [if_neg (by simp [h3])] at hp
    have h3' : ((FR.chk pd : Nat) : Int) = ((FR.num ((l.take (at_ + 7)).drop (at_ + 3)) : Nat) : Int) := by omega
    walk_at "go"
    exact hp
  · rw [if_pos (by simpa using h3)] at hp
    have h3' : ¬ ((FR.chk pd : Nat) : Int) = ((FR.num ((l.take (at_ + 7)).drop (at_ + 3)) : Nat) : Int) := by omega
    walk_at "go"
    exact hp
end
abbrev p_wh : Pre := fun ws O P => ∃ (l : List Nat) (ps : List (List Nat)) (e : Nat), ws = [.d (octD l)] ∧ l.length ≤ 10000000 ∧ FR.Whole l 0 ps e ∧ P (.d (.tuple [.list (ps.map octD), .int e])) O
theorem wh_i {l : List Nat} {ps : List (List Nat)} {e : Nat} {O : Own} {P : DL.W → Own → Prop} (h1 : l.length ≤ 10000000) (h2 : FR.Whole l 0 ps e) (h : P (.d (.tuple [.list (ps.map octD), .int e])) O) : p_wh [.d (octD l)] O P := ⟨l, ps, e, rfl, h1, h2, h⟩
section
local macro_rules | `(tactic| walk_at "nm") => `(tactic| first
  | ((with_reducible refine name_tag "octets" ?_); refine de_name 0 rfl ?_)
  | ((with_reducible refine name_tag "payloads" ?_); refine de_name 1 rfl ?_)
  | ((with_reducible refine name_tag "taken" ?_); refine de_name 2 rfl ?_)
  | ((with_reducible refine name_tag "payload" ?_); refine de_name 3 rfl ?_))
local macro_rules | `(tactic| walk_at "tn") => `(tactic| show DSs _ [_, _, _, _] _ _ _)
theorem ok_whole_frames (F : Fun K "whole_frames" "whole_frames" s_whole_frames f fd) (G : Glb K mg) (d1 : Def P w K mg base 2 "payload_at" 2 p_pay) : FnOk P w K mg base CX0 3 f fd ["octets"] (spD K 1 p_wh) := by
  refine fn_dl F sc_whole_frames fun cdv A outer s H E hr ws O Q hl hp => ?_
  obtain ⟨l, ps, e, rfl, h1, hw, hp⟩ := hp
  have nd := sc_whole_frames.nd
  obtain ⟨g1, g2, g3, g4, g5, g6, g7, g8, g9, g10, g11, g12, g13, g14⟩ := G
  refine dss_cons (ds_asg 1 (de_lstO ?_) nd)
  walk_at "go"
  intro pp
  show DSs _ _ _ _ _
  refine dss_cons (ds_asg 2 ?_ nd)
  repeat (walk_at "d1")
  show DSs _ _ _ _ _
  refine dss_cons (ds_asg 3 ?_ nd)
  refine de_call d1 hr ?_
  walk_at "go"
  refine pay_i (at_ := 0) h1 ?_
  show DSs _ _ _ _ _
  have hwl := hw.len
  have hwe := hw.le (Nat.zero_le _)
  refine dss_cons (ds_while (fun m τ' O' => ∃ (dn rs : List (List Nat)) (at_ : Nat), dn ++ rs = ps ∧ FR.Whole l at_ rs e ∧ m = rs.length ∧ O' = (pp, .l (dn.map octD)) :: O ∧ τ' = [some (.d (octD l)), some (.r (.ref pp)), some (.d (.int at_)), some (.d (match FR.payAt l at_ with | none => .none | some p => octD p))]) ⟨_, [], ps, 0, rfl, hw, rfl, rfl, rfl⟩ ?_)
  rintro m τ' O' ⟨dn, rs, at_, rfl, hw2, rfl, rfl, rfl⟩
  cases hw2 with
  | stop hn =>
    rw [hn]
    repeat (walk_at "d1")
    show DSs _ _ _ _ _
    refine dss_let 1 rfl ?_
    walk_at "go"
    rw [List.append_nil] at hp
    exact hp
  | step hn hw3 =>
    rename_i p rs
    rw [hn]
    repeat (walk_at "d1")
    show DSs _ _ _ _ _
    refine dss_cons (ds_expr ?_)
    refine de_met PySem.F.plainAttrs_list PySem.F.slot_list_append PySem.F.type_list_append ?_
    walk_at "go"
    refine ⟨tyd_l (rdlo 0 rfl), ?_⟩
    walk_at "go"
    rw [List.length_append] at hwl
    refine m_append (j := 0) rfl (by rw [List.length_map, sizeLine_eq]; omega) ?_
    show DSs _ _ _ _ _
    refine dss_cons (ds_aug 2 rfl ?_ nd)
    repeat (walk_at "d1")
    refine b_plusI ?_
    rw [List.length_map, show ((at_ : Nat) : Int) + (7 + ((p.length : Nat) : Int)) = ((at_ + 7 + p.length : Nat) : Int) by omega]
    show DSs _ _ _ _ _
    refine dss_one (ds_asg 3 ?_ nd)
    refine de_call d1 hr ?_
    walk_at "go"
    refine pay_i h1 ?_
    refine ⟨rs.length, by simp, dn ++ [p], rs, at_ + 7 + p.length, by simp, hw3, rfl, ?_, rfl⟩
    rw [List.map_append]
    rfl
end

end
end K10

namespace K10
open PK SX
section
variable {P : Program} {w : World} {K : PySem.W.Frag} {mg : Str → Option Value} {base : Heap} {f : Addr} {fd : FuncData}
/-! ### the law's check and head -/
abbrev p_lchk : Pre := fun ws O P => ∃ l : List Nat, ws = [.d (octD l)] ∧ P (.d (.int (FR.chk l))) O
theorem lchk_i {l : List Nat} {O : Own} {P : DL.W → Own → Prop} (h : P (.d (.int (FR.chk l))) O) : p_lchk [.d (octD l)] O P := ⟨l, rfl, h⟩
section
local macro_rules | `(tactic| walk_at "nm") => `(tactic| first
  | ((with_reducible refine name_tag "octets" ?_); refine de_name 0 rfl ?_)
  | ((with_reducible refine name_tag "total" ?_); refine de_name 1 rfl ?_)
  | ((with_reducible refine name_tag "octet" ?_); refine de_name 2 rfl ?_)
  | ((with_reducible refine name_tag "second" ?_); refine de_name 3 rfl ?_)
  | ((with_reducible refine name_tag "first" ?_); refine de_name 4 rfl ?_))
local macro_rules | `(tactic| walk_at "tn") => `(tactic| show DSs _ [_, _, _, _, _] _ _ _)
theorem ok_law_check (F : Fun K "_law_check" "_law_check" s_law_check f fd) (G : Glb K mg) : FnOk P w K mg base CX0 1 f fd ["octets"] (spD K 1 p_lchk) := by
  refine fn_dl F sc_law_check fun cdv A outer s H E hr ws O Q hl hp => ?_
  obtain ⟨l, rfl, hp⟩ := hp
  have nd := sc_law_check.nd
  obtain ⟨g1, g2, g3, g4, g5, g6, g7, g8, g9, g10, g11, g12, g13, g14⟩ := G
  refine dss_cons (ds_asg 1 ?_ nd)
  repeat (walk_at "d1")
  show DSs _ _ _ _ _
  refine dss_mid (fun τ' O' => O' = O ∧ ∃ x : Option DL.W, τ' = [some (.d (octD l)), some (.d (.int ((1 + l.sum : Nat) : Int))), x, none, none]) ?_ ?_
  · refine ds_for (it_list ?_)
    walk_at "go"
    refine ⟨_, rfl, fun i τ' O' => O' = O ∧ ∃ x : Option DL.W, τ' = [some (.d (octD l)), some (.d (.int ((1 + (l.take i).sum : Nat) : Int))), x, none, none], ⟨rfl, none, rfl⟩, ?_, ?_⟩
    · rintro i d τ' O' hd ⟨rfl, x, rfl⟩
      rw [List.getElem?_map] at hd
      cases e : l[i]? with
      | none => rw [e] at hd; cases hd
      | some c =>
        rw [e] at hd
        cases hd
        refine dtg_name 2 ?_ nd
        have e3 : ((1 + (l.take i).sum : Nat) : Int) + (c : Int) = ((1 + (l.take (i + 1)).sum : Nat) : Int) := by
          rw [List.take_succ, e]
          simp
          omega
        walk_at "go"
        rw [e3]
        exact ⟨rfl, _, rfl⟩
    · rintro τ' O' ⟨rfl, x, rfl⟩
      rw [List.length_map, List.take_length]
      exact ⟨rfl, x, rfl⟩
  rintro τ' O' ⟨rfl, x, rfl⟩
  refine dss_cons (ds_asg 3 ?_ nd)
  repeat (walk_at "d1")
  show DSs _ _ _ _ _
  refine dss_cons (ds_asg 4 ?_ nd)
  repeat (walk_at "d1")
  show DSs _ _ _ _ _
  refine dss_mid (fun τ' O'' => O'' = O' ∧ ∃ x : Option DL.W, τ' = [some (.d (octD l)), some (.d (.int ((1 + l.sum : Nat) : Int))), x, some (.d (.int ((FR.ck2 1 l : Nat) : Int))), some (.d (.int ((1 + l.sum : Nat) : Int)))]) ?_ ?_
  · refine ds_for (it_list ?_)
    walk_at "go"
    refine ⟨_, rfl, fun i τ' O'' => O'' = O' ∧ ∃ x : Option DL.W, τ' = [some (.d (octD l)), some (.d (.int ((1 + l.sum : Nat) : Int))), x, some (.d (.int ((FR.ck2 1 (l.take i) : Nat) : Int))), some (.d (.int ((1 + (l.take i).sum : Nat) : Int)))], ⟨rfl, _, rfl⟩, ?_, ?_⟩
    · rintro i d τ' O'' hd ⟨rfl, x, rfl⟩
      rw [List.getElem?_map] at hd
      cases e : l[i]? with
      | none => rw [e] at hd; cases hd
      | some c =>
        rw [e] at hd
        cases hd
        refine dtg_name 2 ?_ nd
        have e3 : ((1 + (l.take i).sum : Nat) : Int) + (c : Int) = ((1 + (l.take (i + 1)).sum : Nat) : Int) := by
          rw [List.take_succ, e]
          simp
          omega
        have e4 : ((FR.ck2 1 (l.take i) : Nat) : Int) + ((1 + (l.take (i + 1)).sum : Nat) : Int) = ((FR.ck2 1 (l.take (i + 1)) : Nat) : Int) := by
          rw [List.take_succ, e]
          show _ = ((FR.ck2 1 (l.take i ++ [c]) : Nat) : Int)
          rw [FR.ck2_snoc]
          simp
          omega
        walk_at "go"
        rw [e3, e4]
        exact ⟨rfl, _, rfl⟩
    · rintro τ' O'' ⟨rfl, x, rfl⟩
      rw [List.length_map, List.take_length]
      exact ⟨rfl, x, rfl⟩
  rintro τ' O'' ⟨rfl, x, rfl⟩
  walk_at "go"
  have e : ((1 + l.sum : Nat) : Int) % 65521 + 65536 * (((FR.ck2 1 l : Nat) : Int) % 65521) = ((FR.chk l : Nat) : Int) := by
    unfold FR.chk
    omega
  rw [e]
  exact hp
end
abbrev p_lhead : Pre := fun ws O P => ∃ l : List Nat, ws = [.d (octD l)] ∧ l.length < 16777216 ∧ P (.d (octD (FR.hd7 l))) O
theorem lhead_i {l : List Nat} {O : Own} {P : DL.W → Own → Prop} (h1 : l.length < 16777216) (h : P (.d (octD (FR.hd7 l))) O) : p_lhead [.d (octD l)] O P := ⟨l, rfl, h1, h⟩
section
local macro_rules | `(tactic| walk_at "nm") => `(tactic| first
  | ((with_reducible refine name_tag "payload" ?_); refine de_name 0 rfl ?_)
  | ((with_reducible refine name_tag "count" ?_); refine de_name 1 rfl ?_)
  | ((with_reducible refine name_tag "check" ?_); refine de_name 2 rfl ?_)
  | ((with_reducible refine name_tag "row" ?_); refine de_name 3 rfl ?_))
local macro_rules | `(tactic| walk_at "tn") => `(tactic| show DSs _ [_, _, _, _] _ _ _)
theorem ok_law_head (F : Fun K "_law_head" "_law_head" s_law_head f fd) (G : Glb K mg) (d1 : Def P w K mg base 1 "_law_check" 1 p_lchk) : FnOk P w K mg base CX0 2 f fd ["payload"] (spD K 1 p_lhead) := by
  refine fn_dl F sc_law_head fun cdv A outer s H E hr ws O Q hl hp => ?_
  obtain ⟨l, rfl, h1, hp⟩ := hp
  have nd := sc_law_head.nd
  obtain ⟨g1, g2, g3, g4, g5, g6, g7, g8, g9, g10, g11, g12, g13, g14⟩ := G
  walk_at "st"
  walk_at "st"
  refine lchk_i ?_
  have hck := FR.chk_lt l
  unfold FR.hd7 at hp
  generalize FR.chk l = ck at hck hp ⊢
  rw [List.length_map]
  generalize l.length = cnt at h1 hp ⊢
  walk_at "go"
  have c1 : [PyData.int (((cnt : Nat) : Int) / 65536), PyData.int (((cnt : Nat) : Int) / 256 % 256), PyData.int (((cnt : Nat) : Int) % 256)] = (FR.b3 cnt).map fun (c : Nat) => PyData.int c := by
    show _ = [PyData.int ((cnt / 65536 % 256 : Nat) : Int), .int ((cnt / 256 % 256 : Nat) : Int), .int ((cnt % 256 : Nat) : Int)]
    rw [show ((cnt / 65536 % 256 : Nat) : Int) = ((cnt : Nat) : Int) / 65536 by omega, show ((cnt / 256 % 256 : Nat) : Int) = ((cnt : Nat) : Int) / 256 % 256 by omega, show ((cnt % 256 : Nat) : Int) = ((cnt : Nat) : Int) % 256 by omega]
  have c5 : [PyData.int (((ck : Nat) : Int) / 16777216), PyData.int (((ck : Nat) : Int) / 65536 % 256), PyData.int (((ck : Nat) : Int) / 256 % 256), PyData.int (((ck : Nat) : Int) % 256)] = (FR.b4 ck).map fun (c : Nat) => PyData.int c := by
    show _ = [PyData.int ((ck / 16777216 % 256 : Nat) : Int), .int ((ck / 65536 % 256 : Nat) : Int), .int ((ck / 256 % 256 : Nat) : Int), .int ((ck % 256 : Nat) : Int)]
    rw [show ((ck / 16777216 % 256 : Nat) : Int) = ((ck : Nat) : Int) / 16777216 by omega, show ((ck / 65536 % 256 : Nat) : Int) = ((ck : Nat) : Int) / 65536 % 256 by omega, show ((ck / 256 % 256 : Nat) : Int) = ((ck : Nat) : Int) / 256 % 256 by omega, show ((ck % 256 : Nat) : Int) = ((ck : Nat) : Int) % 256 by omega]
  rw [c1, c5, K10.oct_app]
  exact hp
end

end
end K10

namespace K10
open PK SX
section
variable {P : Program} {w : World} {K : PySem.W.Frag} {mg : Str → Option Value} {base : Heap} {f : Addr} {fd : FuncData}
/-! ### a payload that the law draws -/
theorem rep_oct10 (c : Nat) (k : Nat) : (List.replicate k [PyData.int ((c : Nat) : Int)]).flatten = (List.replicate k c).map fun (c : Nat) => PyData.int c := by
  rw [List.flatten_replicate_singleton, List.map_replicate]
abbrev p_lpay : Pre := fun ws O P => ∃ (j : Nat) (p : Addr) (n : Int), ws = [.r (.ref p)] ∧ BoxAt O j p n ∧ ∀ (l : List Nat) (m : Int), FR.Good l → (∀ c ∈ l, c < 256) → P (.d (octD l)) (O.set j (p, .l [.int m]))
theorem lpay_i {j : Nat} {p : Addr} {n : Int} {O : Own} {P : DL.W → Own → Prop} (hb : BoxAt O j p n) (h : ∀ (l : List Nat) (m : Int), FR.Good l → (∀ c ∈ l, c < 256) → P (.d (octD l)) (O.set j (p, .l [.int m]))) : p_lpay [.r (.ref p)] O P := ⟨j, p, n, rfl, hb, h⟩
def apD (a s : Int) : PyData → PyData
  | .int k => .int ((a + s * k) % 256)
  | d => d
section
local macro_rules | `(tactic| walk_at "nm") => `(tactic| first
  | ((with_reducible refine name_tag "box" ?_); refine de_name 0 rfl ?_)
  | ((with_reducible refine name_tag "size" ?_); refine de_name 1 rfl ?_)
  | ((with_reducible refine name_tag "first" ?_); refine de_name 2 rfl ?_)
  | ((with_reducible refine name_tag "step" ?_); refine de_name 3 rfl ?_)
  | ((with_reducible refine name_tag "k" ?_); refine de_name 4 rfl ?_))
local macro_rules | `(tactic| walk_at "tn") => `(tactic| show DSs _ [_, _, _, _, _] _ _ _)
theorem ok_law_payload (F : Fun K "_law_payload" "_law_payload" s_law_payload f fd) (G : Glb K mg) (d1 : Def P w K mg base 1 "_law_take" 2 pTake) : FnOk P w K mg base CX0 2 f fd ["box"] (spD K 1 p_lpay) := by
  refine fn_dl F sc_law_payload fun cdv A outer s H E hr ws O Q hl hp => ?_
  obtain ⟨j, p, n, rfl, hb, hp⟩ := hp
  have nd := sc_law_payload.nd
  obtain ⟨g1, g2, g3, g4, g5, g6, g7, g8, g9, g10, g11, g12, g13, g14⟩ := G
  walk_at "go"
  refine take_i hb (by decide) (by decide) fun a m0 ha0 ha1 => ?_
  refine ix_any rdl ha0 (by simpa using ha1) fun x hx => ?_
  obtain ⟨cnt, rfl, hcnt⟩ : ∃ cnt : Nat, x = .int cnt ∧ cnt ≤ 300 := by
    simp only [List.mem_cons, List.not_mem_nil, or_false] at hx
    rcases hx with rfl | rfl | rfl | rfl | rfl | rfl | rfl | rfl
    · exact ⟨0, rfl, by decide⟩
    · exact ⟨1, rfl, by decide⟩
    · exact ⟨2, rfl, by decide⟩
    · exact ⟨7, rfl, by decide⟩
    · exact ⟨60, rfl, by decide⟩
    · exact ⟨255, rfl, by decide⟩
    · exact ⟨256, rfl, by decide⟩
    · exact ⟨300, rfl, by decide⟩
  clear hx
  walk_at "go"
  refine take_j hb (by decide) (by decide) fun fi m1 hf0 hf1 => ?_
  walk_at "go"
  refine take_j hb (by decide) (by decide) fun st m2 hs0 hs1 => ?_
  walk_at "go"
  refine take_j hb (by decide) (by decide) fun z m3 hz0 hz1 => ?_
  walk_at "go"
  refine if_d2 (fun h => ?_) (fun h => ?_)
  · walk_at "go"
    refine b_repL rdl (by omega) (by omega) (by rw [sizeLine_eq, List.length_singleton]; omega) ?_
    rw [show (List.replicate ((cnt : Nat) : Int).toNat [PyData.int 255]).flatten = (List.replicate cnt 255).map fun (c : Nat) => PyData.int c by rw [Int.toNat_natCast]; exact rep_oct10 255 _]
    refine hp (List.replicate cnt 255) m3 ⟨by rw [List.length_replicate]; exact hcnt, .inl fun c hc => (List.mem_replicate.mp hc).2⟩ fun c hc => ?_
    rw [(List.mem_replicate.mp hc).2]
    decide
  · obtain ⟨fi, rfl⟩ : ∃ u : Nat, fi = u := ⟨fi.toNat, by omega⟩
    obtain ⟨st, rfl⟩ : ∃ u : Nat, st = u := ⟨st.toNat, by omega⟩
    refine dss_nil ?_
    show DSs _ _ _ _ _
    refine dss_one (ds_ret ?_)
    refine de_lc1 4 nd (blkOk_by (N := ["box", "size", "first", "step", "k"]) (sc := defScope s_law_payload) (by decide +kernel)) (it_range1 (by assumption) (de_name 1 rfl ⟨_, rfl, by omega, by omega, ?_⟩))
    refine lcd_map (apD fi st) (by rw [rangeD_len, sizeLine_eq]; omega) (fun i d hd => ?_) (fun q => ?_)
    · obtain ⟨hi, rfl⟩ := rangeD_at0 hd
      refine ⟨_, tgok_name 4 (by decide), fun q acc s H C cl fp => ?_⟩
      have hm : (st : Int).natAbs * (i : Int).natAbs < 2 ^ 60 := by
        have h1 : (st : Int).natAbs ≤ 5 := by omega
        have h2 : (i : Int).natAbs ≤ 300 := by omega
        exact Nat.lt_of_le_of_lt (Nat.mul_le_mul h1 h2) (by decide)
      walk_at "go"
      exact ⟨rfl, rfl⟩
    · have e : (rangeD 0 ((cnt : Nat) : Int).toNat).map (apD fi st) = ((List.range cnt).map fun k => (fi + st * k) % 256).map fun (c : Nat) => PyData.int c := by
        rw [Int.toNat_natCast]
        unfold rangeD
        rw [List.map_map, List.map_map]
        refine List.map_congr_left fun k _ => ?_
        show apD fi st (.int (0 + ((k : Nat) : Int))) = .int (((fi + st * k) % 256 : Nat) : Int)
        rw [Int.zero_add]
        show PyData.int (((fi : Int) + (st : Int) * (k : Int)) % 256) = _
        congr 1
      rw [e]
      refine hp _ m3 ⟨by rw [List.length_map, List.length_range]; exact hcnt, .inr ⟨fi, st, by omega, fun j hj => by rw [List.getElem_map, List.getElem_range]⟩⟩ fun c hc => ?_
      obtain ⟨k, _, rfl⟩ := List.mem_map.mp hc
      exact Nat.mod_lt _ (by decide)
end

end
end K10

namespace K10
open PK SX
section
variable {P : Program} {w : World} {K : PySem.W.Frag} {mg : Str → Option Value} {base : Heap} {f : Addr} {fd : FuncData}
/-! ### the law's reader -/
theorem oct_inj {a b : List Nat} (h : octD a = octD b) : a = b := by
  have h2 : (a.map fun (c : Nat) => PyData.int c) = b.map fun (c : Nat) => PyData.int c := by injection h
  refine List.map_inj_right (fun x y q => ?_) |>.mp h2
  have : (x : Int) = (y : Int) := by injection q
  omega
theorem oct_lay (l : List Nat) : (octD l).canLay0 = true := by
  simp only [octD, PyData.canLay0]
  exact canLayAll_map l fun _ _ => rfl
theorem oct_eqv (a b : List Nat) : PyData.eqv (octD a) (octD b) = decide (a = b) := by
  rw [Bool.eq_iff_iff, eqv_iff (oct_nb a) (oct_nb b) (oct_lay a), decide_eq_true_iff]
  exact ⟨oct_inj, fun h => by rw [h]⟩
theorem seven {h : List Nat} (e : h.length = 7) : ∃ a b c d e f g : Nat, h = [a, b, c, d, e, f, g] := by
  match h, e with
  | [a, b, c, d, e, f, g], _ => exact ⟨a, b, c, d, e, f, g, rfl⟩
abbrev p_lwh : Pre := fun ws O P => ∃ (l : List Nat) (ps : List (List Nat)) (e : Nat), ws = [.d (octD l)] ∧ (∀ c ∈ l, c < 256) ∧ l.length ≤ 60000 ∧ FR.Whole l 0 ps e ∧ ps.length ≤ 9 ∧ P (.d (.tuple [.list (ps.map octD), .int e])) O
theorem lwh_i {l : List Nat} {ps : List (List Nat)} {e : Nat} {O : Own} {P : DL.W → Own → Prop} (h0 : ∀ c ∈ l, c < 256) (h1 : l.length ≤ 60000) (h2 : FR.Whole l 0 ps e) (h3 : ps.length ≤ 9) (h : P (.d (.tuple [.list (ps.map octD), .int e])) O) : p_lwh [.d (octD l)] O P := ⟨l, ps, e, rfl, h0, h1, h2, h3, h⟩
section
local macro_rules | `(tactic| walk_at "nm") => `(tactic| first
  | ((with_reducible refine name_tag "octets" ?_); refine de_name 0 rfl ?_)
  | ((with_reducible refine name_tag "found" ?_); refine de_name 1 rfl ?_)
  | ((with_reducible refine name_tag "at" ?_); refine de_name 2 rfl ?_)
  | ((with_reducible refine name_tag "k" ?_); refine de_name 3 rfl ?_)
  | ((with_reducible refine name_tag "head" ?_); refine de_name 4 rfl ?_)
  | ((with_reducible refine name_tag "end" ?_); refine de_name 5 rfl ?_))
local macro_rules | `(tactic| walk_at "tn") => `(tactic| show DSs _ [_, _, _, _, _, _] _ _ _)
theorem ok_law_whole (F : Fun K "_law_whole" "_law_whole" s_law_whole f fd) (G : Glb K mg) (d1 : Def P w K mg base 2 "_law_head" 1 p_lhead) : FnOk P w K mg base CX0 3 f fd ["octets"] (spD K 1 p_lwh) := by
  refine fn_dl F sc_law_whole fun cdv A outer s H E hr ws O Q hl hp => ?_
  obtain ⟨l, ps, e, rfl, h8, h1, hw, h9, hp⟩ := hp
  have nd := sc_law_whole.nd
  obtain ⟨g1, g2, g3, g4, g5, g6, g7, g8, g9, g10, g11, g12, g13, g14⟩ := G
  refine dss_cons (ds_asg 1 (de_lstO ?_) nd)
  walk_at "go"
  intro pp
  show DSs _ _ _ _ _
  refine dss_cons (ds_asg 2 ?_ nd)
  repeat (walk_at "d1")
  show DSs _ _ _ _ _
  refine dss_mid (fun τ' O' => ∃ (y3 y4 y5 : Option DL.W), O' = (pp, .l (ps.map octD)) :: O ∧ τ' = [some (.d (octD l)), some (.r (.ref pp)), some (.d (.int e)), y3, y4, y5]) ?_ ?_
  · refine ds_for (it_range1 (by assumption) ?_)
    walk_at "go"
    refine ⟨_, rfl, by decide, by decide, fun i τ' O' => ∃ (dn rs : List (List Nat)) (at_ : Nat) (y3 y4 y5 : Option DL.W), dn ++ rs = ps ∧ dn.length = i ∧ at_ ≤ l.length ∧ FR.Whole l at_ rs e ∧ O' = (pp, .l (dn.map octD)) :: O ∧ τ' = [some (.d (octD l)), some (.r (.ref pp)), some (.d (.int at_)), y3, y4, y5], ⟨[], ps, 0, _, _, _, rfl, rfl, Nat.zero_le _, hw, rfl, rfl⟩, ?_, ?_⟩
    · rintro i d τ' O' hd ⟨dn, rs, at_, y3, y4, y5, rfl, hdn, hat, hw2, rfl, rfl⟩
      obtain ⟨hi, rfl⟩ := rangeD_at0 hd
      refine dtg_name 3 ?_ nd
      refine dss_cons (ds_asg 4 ?_ nd)
      walk_at "go"
      rw [oct_cut l at_ (at_ + 7) rfl (by omega), List.length_map]
      by_cases h7 : ((l.take (at_ + 7)).drop at_).length < 7
      · have hn := FR.pay_short h7 hat
        have hd7 : decide (((((l.take (at_ + 7)).drop at_).length : Nat) : Int) < 7) = true := decide_eq_true (by omega)
        rw [hd7]
        refine if_t rfl ?_
        cases hw2 with
        | step q _ => rw [hn] at q; cases q
        | stop _ =>
          refine dss_let 1 rfl ?_
          walk_at "go"
          rw [List.append_nil] at hp
          exact hp
      · have hd7 : decide (((((l.take (at_ + 7)).drop at_).length : Nat) : Int) < 7) = false := decide_eq_false (by omega)
        rw [hd7]
        refine if_f rfl (dss_nil ?_)
        obtain ⟨a, b, c, d, e2, f2, g2, eh⟩ := seven (h := (l.take (at_ + 7)).drop at_) (by
          rw [List.length_drop, List.length_take] at h7 ⊢
          omega)
        have hR := FR.pay_read h8 eh
        rw [eh]
        show DSs _ _ _ _ _
        refine dss_cons (ds_asg 5 ?_ nd)
        walk_at "go"
        have e3 : ((at_ : Nat) : Int) + 7 + 65536 * ((a : Nat) : Int) + 256 * ((b : Nat) : Int) + ((c : Nat) : Int) = ((at_ + 7 + (65536 * a + 256 * b + c) : Nat) : Int) := by omega
        rw [e3]
        generalize hen : at_ + 7 + (65536 * a + 256 * b + c) = en at hR ⊢
        rw [List.length_map]
        by_cases h2 : en > l.length
        · rw [decide_eq_true (show ((l.length : Nat) : Int) < ((en : Nat) : Int) by omega)]
          rw [if_pos h2] at hR
          refine if_t rfl (if_t rfl ?_)
          cases hw2 with
          | step q _ => rw [hR] at q; cases q
          | stop _ =>
            refine dss_let 1 rfl ?_
            walk_at "go"
            rw [List.append_nil] at hp
            exact hp
        · rw [decide_eq_false (show ¬ ((l.length : Nat) : Int) < ((en : Nat) : Int) by omega)]
          rw [if_neg h2] at hR
          refine if_f (by decide) ?_
          walk_at "go"
          rw [oct_cut l (at_ + 7) en (by omega) rfl]
          refine lhead_i (by rw [List.length_drop, List.length_take]; omega) ?_
          generalize hpd : (l.take en).drop (at_ + 7) = pd at hR
          refine de_name 4 rfl ?_
          refine b_ne (Room.units hr) (oct_shaped _) (oct_shaped _) ?_
          rw [oct_eqv]
          by_cases h3 : FR.hd7 pd = [a, b, c, d, e2, f2, g2]
          · rw [if_neg (not_not_intro h3)] at hR
            rw [decide_eq_true h3]
            cases hw2 with
            | stop q => rw [hR] at q; cases q
            | step q hw3 =>
              rename_i p2 rs2
              rw [hR] at q
              cases q
              have hpl : at_ + 7 + pd.length = en := by
                rw [← hpd, List.length_drop, List.length_take]
                omega
              rw [hpl] at hw3
              rw [List.length_append, List.length_cons] at h9
              walk_at "go"
              refine de_met PySem.F.plainAttrs_list PySem.F.slot_list_append PySem.F.type_list_append ?_
              refine de_name 1 rfl ⟨tyd_l (rdlo 0 rfl), ?_⟩
              walk_at "go"
              rw [oct_cut l (at_ + 7) en (by omega) rfl, hpd]
              refine m_append (j := 0) rfl (by rw [List.length_map, sizeLine_eq]; omega) ?_
              walk_at "go"
              refine ⟨dn ++ [pd], rs2, en, _, _, _, by rw [List.append_assoc]; rfl, by rw [List.length_append, hdn]; rfl, by omega, hw3, ?_, rfl⟩
              rw [List.map_append]
              rfl
          · rw [if_pos h3] at hR
            rw [decide_eq_false h3]
            cases hw2 with
            | step q _ => rw [hR] at q; cases q
            | stop _ =>
              walk_at "d1"
              refine if_t rfl ?_
              refine dss_let 1 rfl ?_
              walk_at "go"
              rw [List.append_nil] at hp
              exact hp
    · rintro τ' O' ⟨dn, rs, at_, y3, y4, y5, rfl, hdn, hat, hw2, rfl, rfl⟩
      rw [rangeD_len] at hdn
      rw [List.length_append, hdn, show (9 : Int).toNat = 9 from rfl] at h9
      cases hw2 with
      | stop _ => exact ⟨y3, y4, y5, by rw [List.append_nil], rfl⟩
      | step q _ =>
        rw [List.length_cons] at h9
        omega
  rintro τ' O' ⟨y3, y4, y5, rfl, rfl⟩
  refine dss_let 1 rfl ?_
  walk_at "go"
  exact hp
end

end
end K10

namespace K10
open PK SX
section
variable {P : Program} {w : World} {K : PySem.W.Frag} {mg : Str → Option Value} {base : Heap} {f : Addr} {fd : FuncData}
/-! ### checks and frames -/
theorem wh_shaped10 (ps : List (List Nat)) (e : Int) : SeqAt.shaped (.tuple [.list (ps.map octD), .int e]) = true := by
  refine shaped_mk ?_ ?_
  · simp only [PyData.canLay0, PyData.canLayAll0, Bool.and_true]
    exact canLayAll_map ps fun l _ => by
      simp only [octD, PyData.canLay0]
      exact canLayAll_map l fun _ _ => rfl
  · simp only [PyData.depth, PyData.depthAll]
    have h1 := depthAll_map (f := octD) (n := 1) ps fun l _ => by
      simp only [octD, PyData.depth]
      exact Nat.succ_le_succ (depthAll_map (n := 0) l fun _ _ => Nat.le_refl _)
    omega
section
local macro_rules | `(tactic| walk_at "nm") => `(tactic| first
  | ((with_reducible refine name_tag "script" ?_); refine de_name 0 rfl ?_)
  | ((with_reducible refine name_tag "box" ?_); refine de_name 1 rfl ?_)
  | ((with_reducible refine name_tag "payloads" ?_); refine de_name 2 rfl ?_)
  | ((with_reducible refine name_tag "k" ?_); refine de_name 3 rfl ?_)
  | ((with_reducible refine name_tag "octets" ?_); refine de_name 4 rfl ?_)
  | ((with_reducible refine name_tag "payload" ?_); refine de_name 5 rfl ?_)
  | ((with_reducible refine name_tag "given" ?_); refine de_name 6 rfl ?_)
  | ((with_reducible refine name_tag "kind" ?_); refine de_name 7 rfl ?_)
  | ((with_reducible refine name_tag "at" ?_); refine de_name 8 rfl ?_)
  | ((with_reducible refine name_tag "told" ?_); refine de_name 9 rfl ?_))
local macro_rules | `(tactic| walk_at "tn") => `(tactic| show DSs _ [_, _, _, _, _, _, _, _, _, _] _ _ _)
theorem ok_law (F : Fun K "law" "law" s_law f fd) (G : Glb K mg) (d1 : Def P w K mg base 1 "_law_number" 2 pNumber) (d2 : Def P w K mg base 1 "_law_take" 2 pTake) (d3 : Def P w K mg base 1 "_law_check" 1 p_lchk) (d4 : Def P w K mg base 2 "_law_head" 1 p_lhead) (d5 : Def P w K mg base 2 "_law_payload" 1 p_lpay) (d6 : Def P w K mg base 3 "_law_whole" 1 p_lwh) (d7 : Def P w K mg base 1 "check_of" 1 p_chk) (d8 : Def P w K mg base 2 "frame" 1 p_frame) (d9 : Def P w K mg base 3 "whole_frames" 1 p_wh) : FnOk P w K mg base CX0 4 f fd ["script"] (spD K 1 pLaw) := by
  refine fn_dl F sc_law fun cdv A outer s H E hr ws O Q hl hp => ?_
  obtain ⟨ns, rfl, hn, hp⟩ := hp
  have nd := sc_law.nd
  obtain ⟨g1, g2, g3, g4, g5, g6, g7, g8, g9, g10, g11, g12, g13, g14⟩ := G
  refine dss_cons (ds_asg 1 ?_ nd)
  walk_at "ao"
  walk_at "go"
  refine number_i hn (by omega) (by omega) fun m1 => ?_
  walk_at "go"
  intro p0
  show DSs _ _ _ _ _
  refine dss_cons (ds_setLc1 2 3 nd (blkOk_by (N := ["script", "box", "payloads", "k", "octets", "payload", "given", "kind", "at", "told"]) (sc := defScope s_law) (by decide +kernel)) (it_range1 (by assumption) ?_))
  walk_at "go"
  refine take_i (j := 0) rfl (by decide) (by decide) fun cn m2 hc0 hc1 => ?_
  rw [List.set_cons_zero]
  refine ⟨_, rfl, by omega, by omega, fun i acc O2 => ∃ ps : List (List Nat), acc = ps.map octD ∧ ps.length = i ∧ (∀ p ∈ ps, FR.Good p ∧ ∀ c ∈ p, c < 256) ∧ O2 = (p0, .l [.int m2]) :: O, ⟨[], rfl, rfl, fun p h => (by cases h), rfl⟩, ?_, ?_⟩
  · rintro i d acc O2 hd ⟨ps, rfl, hpl, hg, rfl⟩
    obtain ⟨hi, rfl⟩ := rangeD_at0 hd
    refine ⟨_, tgok_name 3 (by decide), fun q => ⟨fun b O3 => b = true ∧ O3 = (q, .l (ps.map octD)) :: (p0, .l [.int m2]) :: O, fun s H C cl fp => dts_nil ⟨rfl, rfl⟩, fun s H C cl fp O3 ⟨_, ho⟩ => ?_, fun O3 ⟨h, _⟩ => nomatch h⟩⟩
    subst ho
    refine de_sb ?_
    refine de_call d5 (hr.mono (by decide)) (da_cons (de_lstO ?_))
    walk_at "go"
    refine number_i hn (by omega) (by omega) fun m3 => ?_
    walk_at "go"
    intro pb
    refine da_nil ⟨rfl, lpay_i (j := 0) rfl fun l m4 hgl hoct => ?_⟩
    exact ⟨_, Les.drop _, _, _, rfl, rfl, by rw [List.length_map, sizeLine_eq]; omega, ps ++ [l], by rw [List.map_append]; rfl, by rw [List.length_append, hpl]; rfl, fun p hp => by
      rcases List.mem_append.mp hp with z | z
      · exact hg p z
      · rw [List.mem_singleton.mp z]
        exact ⟨hgl, hoct⟩, rfl⟩
  rintro acc O2 - ⟨ps, rfl, hpl, hg, rfl⟩
  rw [rangeD_len] at hpl
  have h5 : ps.length ≤ 5 := by omega
  have hp300 : ∀ p ∈ ps, p.length ≤ 300 := fun p h => (hg p h).1.len
  show DSs _ _ _ _ _
  refine dss_cons (ds_asg 4 ?_ nd)
  repeat (walk_at "d1")
  show DSs _ _ _ _ _
  refine dss_mid (fun τ' O' => ∃ (y3 y5 y6 : Option DL.W), O' = (p0, .l [.int m2]) :: O ∧ τ' = [some (.s (.list (ns.map .int))), some (.r (.ref p0)), some (.d (.list (ps.map octD))), y3, some (.d (octD (FR.fstr ps))), y5, y6, none, none, none]) ?_ ?_
  · refine ds_for (it_list ?_)
    walk_at "go"
    refine ⟨_, rfl, fun i τ' O' => ∃ (y3 y5 y6 : Option DL.W), O' = (p0, .l [.int m2]) :: O ∧ τ' = [some (.s (.list (ns.map .int))), some (.r (.ref p0)), some (.d (.list (ps.map octD))), y3, some (.d (octD (FR.fstr (ps.take i)))), y5, y6, none, none, none], ⟨_, _, _, rfl, rfl⟩, ?_, ?_⟩
    · rintro i d τ' O' hd ⟨y3, y5, y6, rfl, rfl⟩
      rw [List.getElem?_map] at hd
      obtain ⟨p, hpi, rfl⟩ := Option.map_eq_some_iff.mp hd
      have hpm := List.mem_of_getElem? hpi
      have h300 := hp300 p hpm
      refine dtg_name 5 ?_ nd
      refine dss_cons (ds_asg 6 ?_ nd)
      walk_at "go"
      refine chk_i ?_
      walk_at "go"
      refine lchk_i ?_
      walk_at "go"
      refine frame_i (by omega) ?_
      walk_at "go"
      refine b_addL rdl rdl (by rw [List.length_map, List.length_map, FR.hd7_len, sizeLine_eq]; omega) ?_
      rw [oct_app]
      refine b_ne (Room.units hr) (oct_shaped _) (oct_shaped _) ?_
      rw [oct_eqv, decide_eq_true (show FR.frm p = FR.hd7 p ++ p from rfl)]
      walk_at "go"
      refine b_ne (Room.units hr) (oct_shaped _) (oct_shaped _) ?_
      rw [oct_eqv, decide_eq_true rfl]
      walk_at "go"
      refine frame_i (by omega) ?_
      have htl := FR.fstr_len (ps.take i) fun x hx => hp300 x (List.mem_of_mem_take hx)
      have htl2 : (ps.take i).length ≤ 5 := by rw [List.length_take]; omega
      refine b_addL rdl rdl (by rw [List.length_map, List.length_map, FR.frm_len, sizeLine_eq]; omega) ?_
      rw [oct_app, ← FR.fstr_snoc, show ps.take i ++ [p] = ps.take (i + 1) by rw [List.take_succ, hpi]; rfl]
      exact ⟨_, _, _, rfl, rfl⟩
    · rintro τ' O' ⟨y3, y5, y6, rfl, rfl⟩
      rw [List.length_map, List.take_length]
      exact ⟨y3, y5, y6, rfl, rfl⟩
  rintro τ' O' ⟨y3, y5, y6, rfl, rfl⟩
  have hfl := FR.fstr_len ps hp300
  have hlt : ∀ p ∈ ps, p.length < 16777216 := fun p h => by have := hp300 p h; omega
  have hg1 : ∀ p ∈ ps, FR.Good p := fun p h => (hg p h).1
  have ho8 : ∀ c ∈ FR.fstr ps, c < 256 := FR.fstr_oct fun p h => (hg p h).2
  have hw0 : FR.Whole (FR.fstr ps) 0 ps (FR.fstr ps).length := by
    have := FR.whole_fstr ps [] hlt
    simpa using this
  refine dss_cons (ds_if ?_)
  walk_at "go"
  refine wh_i (by omega) hw0 ?_
  walk_at "go"
  rw [List.length_map]
  refine b_ne (Room.units hr) (wh_shaped10 _ _) (wh_shaped10 _ _) ?_
  rw [eqv_self (wh_shaped10 _ _)]
  walk_at "go"
  refine take_i (j := 0) rfl (by decide) (by decide) fun kd m3 hk0 hk1 => ?_
  rw [List.set_cons_zero]
  show DSs _ _ _ _ _
  refine dss_cons (ds_asg 8 ?_ nd)
  walk_at "go"
  rw [List.length_map]
  refine take_i (j := 0) rfl (by omega) (by omega) fun k m4 ha0 ha1 => ?_
  rw [List.set_cons_zero]
  obtain ⟨k, rfl⟩ : ∃ o : Nat, k = (o : Int) := ⟨k.toNat, by omega⟩
  show DSs _ _ _ _ _
  refine dss_mid (fun τ' O' => ∃ oc : List Nat, ((kd = 0 ∧ ∃ k, oc = (FR.fstr ps).take k) ∨ (kd ≠ 0 ∧ oc = FR.fstr ps)) ∧ O' = (p0, .l [.int m4]) :: O ∧ τ' = [some (.s (.list (ns.map .int))), some (.r (.ref p0)), some (.d (.list (ps.map octD))), y3, some (.d (octD oc)), y5, y6, some (.d (.int kd)), some (.d (.int k)), none]) ?_ ?_
  · refine ds_if ?_
    walk_at "go"
    refine if_d2 (fun h => ?_) (fun h => ?_)
    · walk_at "go"
      rw [cutL_take (by omega), ← List.map_take]
      exact ⟨_, .inl ⟨h, _, rfl⟩, rfl, rfl⟩
    · exact dss_nil ⟨_, .inr ⟨h, rfl⟩, rfl, rfl⟩
  rintro τ' O' ⟨oc, hoc, rfl, rfl⟩
  refine dss_mid (fun τ' O' => ∃ (oc : List Nat) (m : Int), ((kd = 0 ∧ ∃ k, oc = (FR.fstr ps).take k) ∨ (kd = 1 ∧ ∃ k c, c < 256 ∧ oc = (FR.fstr ps).set k c) ∨ (kd = 2 ∧ oc = FR.fstr ps)) ∧ O' = (p0, .l [.int m]) :: O ∧ τ' = [some (.s (.list (ns.map .int))), some (.r (.ref p0)), some (.d (.list (ps.map octD))), y3, some (.d (octD oc)), y5, y6, some (.d (.int kd)), some (.d (.int k)), none]) ?_ ?_
  · refine ds_if ?_
    walk_at "go"
    refine if_d2 (fun h => ?_) (fun h => ?_)
    · have h1 : oc = FR.fstr ps := by
        rcases hoc with ⟨z, _⟩ | ⟨_, z⟩
        · omega
        · exact z
      subst h1
      walk_at "go"
      rw [List.length_map]
      refine if_d2 (fun h2 => ?_) (fun h2 => ?_)
      · walk_at "go"
        refine ix_any rdl (by omega) (by rw [List.length_map]; omega) fun d hd => ?_
        obtain ⟨c, hc, rfl⟩ := List.mem_map.mp hd
        walk_at "go"
        refine take_i (j := 0) rfl (by decide) (by decide) fun r m5 hr0 hr1 => ?_
        rw [List.set_cons_zero]
        obtain ⟨rn, rfl⟩ : ∃ o : Nat, r = (o : Int) := ⟨r.toNat, by omega⟩
        have ec : [PyData.int ((((c : Nat) : Int) + 1 + ((rn : Nat) : Int)) % 256)] = ([(c + 1 + rn) % 256]).map fun (c : Nat) => PyData.int c := rfl
        have hkl : k < (FR.fstr ps).length := by omega
        have hc2 : (c + 1 + rn) % 256 < 256 := Nat.mod_lt _ (by decide)
        walk_at "go"
        rw [ec, cutL_take (by omega), ← List.map_take, Int.toNat_natCast]
        generalize (c + 1 + rn) % 256 = c2 at hc2
        refine b_addL rdl rdl (by rw [List.length_map, List.length_map, List.length_take, sizeLine_eq]; simp; omega) ?_
        rw [oct_app]
        walk_at "go"
        rw [cutL_drop (by omega), ← List.map_drop, show (((k : Nat) : Int) + 1).toNat = k + 1 by omega]
        refine b_addL rdl rdl (by rw [List.length_map, List.length_map, List.length_append, List.length_take, List.length_drop, sizeLine_eq]; simp; omega) ?_
        rw [oct_app]
        refine ⟨(FR.fstr ps).set k c2, m5, .inr (.inl ⟨h, k, c2, hc2, rfl⟩), rfl, ?_⟩
        have es : (FR.fstr ps).set k c2 = (FR.fstr ps).take k ++ [c2] ++ (FR.fstr ps).drop (k + 1) := by
          rw [List.set_eq_take_append_cons_drop, if_pos hkl, List.append_assoc]
          rfl
        rw [es]
        rfl
      · refine dss_nil ⟨_, m4, .inr (.inl ⟨h, (FR.fstr ps).length, 0, by decide, (List.set_eq_of_length_le (Nat.le_refl _)).symm⟩), rfl, rfl⟩
    · refine dss_nil ⟨oc, m4, ?_, rfl, rfl⟩
      rcases hoc with z | ⟨z, z2⟩
      · exact .inl z
      · exact .inr (.inr ⟨by omega, z2⟩)
  rintro τ' O' ⟨oc, m6, hoc, rfl, rfl⟩
  refine dss_mid (fun τ' O' => ∃ (oc : List Nat) (m : Int), ((∃ k, oc = (FR.fstr ps).take k) ∨ (∃ k c, oc = (FR.fstr ps).set k c) ∨ ∃ b, oc = FR.fstr ps ++ b ∧ b.length ≤ 20) ∧ (∀ c ∈ oc, c < 256) ∧ oc.length ≤ 60000 ∧ O' = (p0, .l [.int m]) :: O ∧ τ' = [some (.s (.list (ns.map .int))), some (.r (.ref p0)), some (.d (.list (ps.map octD))), y3, some (.d (octD oc)), y5, y6, some (.d (.int kd)), some (.d (.int k)), none]) ?_ ?_
  · refine ds_if ?_
    walk_at "go"
    refine if_d2 (fun h => ?_) (fun h => ?_)
    · have h1 : oc = FR.fstr ps := by
        rcases hoc with ⟨z, _⟩ | ⟨z, _⟩ | ⟨_, z⟩
        · omega
        · omega
        · exact z
      subst h1
      refine dss_one (ds_asg 4 (de_bin (de_name 4 rfl ?_)) nd)
      refine de_lc1 3 nd (blkOk_by (N := ["script", "box", "payloads", "k", "octets", "payload", "given", "kind", "at", "told"]) (sc := defScope s_law) (by decide +kernel)) (it_range1 (by assumption) ?_)
      walk_at "go"
      refine take_i (j := 0) rfl (by decide) (by decide) fun bn m7 hb0 hb1 => ?_
      rw [List.set_cons_zero]
      refine ⟨_, rfl, by omega, by omega, fun i acc O2 => ∃ (b : List Nat) (m : Int), acc = (b.map fun (c : Nat) => PyData.int c) ∧ b.length = i ∧ (∀ c ∈ b, c < 256) ∧ O2 = (p0, .l [.int m]) :: O, ⟨[], m7, rfl, rfl, fun p h => (by cases h), rfl⟩, ?_, ?_⟩
      · rintro i d acc O2 hd ⟨b, m8, rfl, hbl, hb8, rfl⟩
        obtain ⟨hi, rfl⟩ := rangeD_at0 hd
        refine ⟨_, tgok_name 3 (by decide), fun q => ⟨fun bb O3 => bb = true ∧ O3 = (q, .l (b.map fun (c : Nat) => PyData.int c)) :: (p0, .l [.int m8]) :: O, fun s H C cl fp => dts_nil ⟨rfl, rfl⟩, fun s H C cl fp O3 ⟨_, ho⟩ => ?_, fun O3 ⟨h, _⟩ => nomatch h⟩⟩
        subst ho
        walk_at "go"
        refine take_i (j := 1) rfl (by decide) (by decide) fun r m9 hr0 hr1 => ?_
        refine ⟨_, _, rfl, rfl, by rw [List.length_map, sizeLine_eq]; omega, b ++ [r.toNat], m9, ?_, by rw [List.length_append, hbl]; rfl, fun c hc => ?_, rfl⟩
        · rw [List.map_append]
          show _ = _ ++ [PyData.int (r.toNat : Int)]
          rw [Int.toNat_of_nonneg hr0]
        · rcases List.mem_append.mp hc with z | z
          · exact hb8 c z
          · rw [List.mem_singleton.mp z]
            omega
      rintro acc O2 q ⟨b, m8, rfl, hbl, hb8, rfl⟩
      rw [rangeD_len] at hbl
      refine b_addL rdl rdl (by rw [List.length_map, List.length_map, sizeLine_eq]; omega) ?_
      rw [oct_app]
      refine ⟨FR.fstr ps ++ b, m8, .inr (.inr ⟨b, rfl, by omega⟩), fun c hc => ?_, by rw [List.length_append]; omega, rfl, rfl⟩
      rcases List.mem_append.mp hc with z | z
      · exact ho8 c z
      · exact hb8 c z
    · refine dss_nil ?_
      rcases hoc with ⟨_, k2, rfl⟩ | ⟨_, k2, c2, hc2, rfl⟩ | ⟨z, _⟩
      · exact ⟨_, m6, .inl ⟨k2, rfl⟩, fun c hc => ho8 c (List.mem_of_mem_take hc), by rw [List.length_take]; omega, rfl, rfl⟩
      · refine ⟨_, m6, .inr (.inl ⟨k2, c2, rfl⟩), fun c hc => ?_, by rw [List.length_set]; omega, rfl, rfl⟩
        rcases List.mem_or_eq_of_mem_set hc with z | z
        · exact ho8 c z
        · omega
      · omega
  rintro τ' O' ⟨oc, m7, hoc, hc8, hcl, rfl, rfl⟩
  obtain ⟨qs, e, hw⟩ := FR.whole_ex oc (oc.length + 1) 0 (by omega)
  have h9 := FR.whole_nine hg1 h5 hoc hw
  refine dss_cons (ds_asg 6 ?_ nd)
  walk_at "go"
  refine wh_i (by omega) hw ?_
  walk_at "go"
  refine b_eq (Room.units hr) (oct_shaped _) (oct_shaped _) ?_
  rw [oct_eqv, decide_eq_true rfl]
  walk_at "go"
  refine lwh_i hc8 hcl hw h9 ?_
  walk_at "go"
  refine b_eq (Room.units hr) (wh_shaped10 _ _) (wh_shaped10 _ _) ?_
  rw [eqv_self (wh_shaped10 _ _)]
  walk_at "go"
  exact hp _
end

end
end K10

namespace K10
set_option maxHeartbeats 0 in
theorem all_mk {l : PySem.W.OpenLaw} {w : World} {K : PySem.W.Frag} {h : Heap} {mg : Str → Option Value} {fa : Addr} (X : K.In h) (G : h.Ns mainGlobals mg) (hfa : mg "law" = some (.ref fa))
    {f1 f2 f3 f4 f5 f6 f7 f8 f9 f10 f11 f12 f13 : Addr} {od1 an1 od2 an2 od3 an3 od4 an4 od5 an5 od6 an6 od7 an7 od8 an8 od9 an9 od10 an10 od11 an11 od12 an12 od13 an13 : Option Addr}
    {sl1 sl2 sl3 sl4 sl5 sl6 sl7 sl8 sl9 sl10 sl11 sl12 sl13 : Array (Option Value)} {oc1 kV1 dc1 pm1 cd1 ct1 oc2 kV2 dc2 pm2 cd2 ct2 oc3 kV3 dc3 pm3 cd3 ct3 oc4 kV4 dc4 pm4 cd4 ct4 oc5 kV5 dc5 pm5 cd5 ct5 oc6 kV6 dc6 pm6 cd6 ct6 oc7 kV7 dc7 pm7 cd7 ct7 oc8 kV8 dc8 pm8 cd8 ct8 oc9 kV9 dc9 pm9 cd9 ct9 oc10 kV10 dc10 pm10 cd10 ct10 oc11 kV11 dc11 pm11 cd11 ct11 oc12 kV12 dc12 pm12 cd12 ct12 oc13 kV13 dc13 pm13 cd13 ct13 : Value}
    (a1 : PySem.W.nsIn K mainGlobals "check_of" = some (some (.ref f1))) (l1 : K.lookup f1 = some ⟨oc1, od1, .func (PySem.W.fnOf "check_of" "check_of" (defArgs s_check_of) (defBody s_check_of) (defScope s_check_of) .none kV1 dc1 pm1 an1 cd1 ct1), sl1⟩) (c1 : PySem.W.codeIn K cd1 "check_of" = true) (k1 : PySem.W.keepIn K (.ref f1) = true)
    (a2 : PySem.W.nsIn K mainGlobals "frame" = some (some (.ref f2))) (l2 : K.lookup f2 = some ⟨oc2, od2, .func (PySem.W.fnOf "frame" "frame" (defArgs s_frame) (defBody s_frame) (defScope s_frame) .none kV2 dc2 pm2 an2 cd2 ct2), sl2⟩) (c2 : PySem.W.codeIn K cd2 "frame" = true) (k2 : PySem.W.keepIn K (.ref f2) = true)
    (a3 : PySem.W.nsIn K mainGlobals "octets_of" = some (some (.ref f3))) (l3 : K.lookup f3 = some ⟨oc3, od3, .func (PySem.W.fnOf "octets_of" "octets_of" (defArgs s_octets_of) (defBody s_octets_of) (defScope s_octets_of) .none kV3 dc3 pm3 an3 cd3 ct3), sl3⟩) (c3 : PySem.W.codeIn K cd3 "octets_of" = true) (k3 : PySem.W.keepIn K (.ref f3) = true)
    (a4 : PySem.W.nsIn K mainGlobals "number_of" = some (some (.ref f4))) (l4 : K.lookup f4 = some ⟨oc4, od4, .func (PySem.W.fnOf "number_of" "number_of" (defArgs s_number_of) (defBody s_number_of) (defScope s_number_of) .none kV4 dc4 pm4 an4 cd4 ct4), sl4⟩) (c4 : PySem.W.codeIn K cd4 "number_of" = true) (k4 : PySem.W.keepIn K (.ref f4) = true)
    (a5 : PySem.W.nsIn K mainGlobals "whole_frames" = some (some (.ref f5))) (l5 : K.lookup f5 = some ⟨oc5, od5, .func (PySem.W.fnOf "whole_frames" "whole_frames" (defArgs s_whole_frames) (defBody s_whole_frames) (defScope s_whole_frames) .none kV5 dc5 pm5 an5 cd5 ct5), sl5⟩) (c5 : PySem.W.codeIn K cd5 "whole_frames" = true) (k5 : PySem.W.keepIn K (.ref f5) = true)
    (a6 : PySem.W.nsIn K mainGlobals "payload_at" = some (some (.ref f6))) (l6 : K.lookup f6 = some ⟨oc6, od6, .func (PySem.W.fnOf "payload_at" "payload_at" (defArgs s_payload_at) (defBody s_payload_at) (defScope s_payload_at) .none kV6 dc6 pm6 an6 cd6 ct6), sl6⟩) (c6 : PySem.W.codeIn K cd6 "payload_at" = true) (k6 : PySem.W.keepIn K (.ref f6) = true)
    (a7 : PySem.W.nsIn K mainGlobals "_law_number" = some (some (.ref f7))) (l7 : K.lookup f7 = some ⟨oc7, od7, .func (PySem.W.fnOf "_law_number" "_law_number" (defArgs s_law_number) (defBody s_law_number) (defScope s_law_number) .none kV7 dc7 pm7 an7 cd7 ct7), sl7⟩) (c7 : PySem.W.codeIn K cd7 "_law_number" = true) (k7 : PySem.W.keepIn K (.ref f7) = true)
    (a8 : PySem.W.nsIn K mainGlobals "_law_take" = some (some (.ref f8))) (l8 : K.lookup f8 = some ⟨oc8, od8, .func (PySem.W.fnOf "_law_take" "_law_take" (defArgs s_law_take) (defBody s_law_take) (defScope s_law_take) .none kV8 dc8 pm8 an8 cd8 ct8), sl8⟩) (c8 : PySem.W.codeIn K cd8 "_law_take" = true) (k8 : PySem.W.keepIn K (.ref f8) = true)
    (a9 : PySem.W.nsIn K mainGlobals "_law_check" = some (some (.ref f9))) (l9 : K.lookup f9 = some ⟨oc9, od9, .func (PySem.W.fnOf "_law_check" "_law_check" (defArgs s_law_check) (defBody s_law_check) (defScope s_law_check) .none kV9 dc9 pm9 an9 cd9 ct9), sl9⟩) (c9 : PySem.W.codeIn K cd9 "_law_check" = true) (k9 : PySem.W.keepIn K (.ref f9) = true)
    (a10 : PySem.W.nsIn K mainGlobals "_law_head" = some (some (.ref f10))) (l10 : K.lookup f10 = some ⟨oc10, od10, .func (PySem.W.fnOf "_law_head" "_law_head" (defArgs s_law_head) (defBody s_law_head) (defScope s_law_head) .none kV10 dc10 pm10 an10 cd10 ct10), sl10⟩) (c10 : PySem.W.codeIn K cd10 "_law_head" = true) (k10 : PySem.W.keepIn K (.ref f10) = true)
    (a11 : PySem.W.nsIn K mainGlobals "_law_payload" = some (some (.ref f11))) (l11 : K.lookup f11 = some ⟨oc11, od11, .func (PySem.W.fnOf "_law_payload" "_law_payload" (defArgs s_law_payload) (defBody s_law_payload) (defScope s_law_payload) .none kV11 dc11 pm11 an11 cd11 ct11), sl11⟩) (c11 : PySem.W.codeIn K cd11 "_law_payload" = true) (k11 : PySem.W.keepIn K (.ref f11) = true)
    (a12 : PySem.W.nsIn K mainGlobals "_law_whole" = some (some (.ref f12))) (l12 : K.lookup f12 = some ⟨oc12, od12, .func (PySem.W.fnOf "_law_whole" "_law_whole" (defArgs s_law_whole) (defBody s_law_whole) (defScope s_law_whole) .none kV12 dc12 pm12 an12 cd12 ct12), sl12⟩) (c12 : PySem.W.codeIn K cd12 "_law_whole" = true) (k12 : PySem.W.keepIn K (.ref f12) = true)
    (a13 : PySem.W.nsIn K mainGlobals "law" = some (some (.ref f13))) (l13 : K.lookup f13 = some ⟨oc13, od13, .func (PySem.W.fnOf "law" "law" (defArgs s_law) (defBody s_law) (defScope s_law) .none kV13 dc13 pm13 an13 cd13 ct13), sl13⟩) (c13 : PySem.W.codeIn K cd13 "law" = true) (k13 : PySem.W.keepIn K (.ref f13) = true)
    (z1 : PySem.W.nsIn K mainGlobals "sum" = some none)
    (z2 : PySem.W.nsIn K mainGlobals "len" = some none)
    (z3 : PySem.W.nsIn K mainGlobals "reversed" = some none)
    (z4 : PySem.W.nsIn K mainGlobals "range" = some none)
    (z5 : PySem.W.nsIn K mainGlobals "int" = some none)
    (z6 : PySem.W.nsIn K mainGlobals "list" = some none)
    (z7 : PySem.W.nsIn K mainGlobals "isinstance" = some none)
    (z8 : PySem.W.nsIn K mainGlobals "tuple" = some none)
    {t0} (g0 : PySem.W.nsIn K mainGlobals "CHECK_BASE" = some (some (.int 65521 t0)))
    {t1} (g1 : PySem.W.nsIn K mainGlobals "LENGTH_OCTETS" = some (some (.int 3 t1)))
    {t2} (g2 : PySem.W.nsIn K mainGlobals "CHECK_OCTETS" = some (some (.int 4 t2)))
    {t3} (g3 : PySem.W.nsIn K mainGlobals "FRAME_HEAD" = some (some (.int 7 t3)))
    {t4} (g4 : PySem.W.nsIn K mainGlobals "MOST_PAYLOAD" = some (some (.int 16777215 t4)))
    (i_accumulate : PySem.W.nsIn K mainGlobals "accumulate" = some (some (.type "itertools.accumulate")))
    : ∃ fd : FuncData, (∀ (s : Shared) (v : Value), BindsTo s fd ⟨[v], []⟩ [("script", v)]) ∧ ∀ base : Heap, K.In base → base.Ns mainGlobals mg → FnOk l.prog w K mg base CX0 4 fa fd ["script"] (spD K 1 pLaw) := by
  have e := hfa.symm.trans (PySem.W.mg_of X G a13)
  cases e
  have GG : Glb K mg := ⟨PySem.W.mg_none_of X G z1, PySem.W.mg_none_of X G z2, PySem.W.mg_none_of X G z3, PySem.W.mg_none_of X G z4, PySem.W.mg_none_of X G z5, PySem.W.mg_none_of X G z6, PySem.W.mg_none_of X G z7, PySem.W.mg_none_of X G z8, GC.int (PySem.W.mg_of X G g0), GC.int (PySem.W.mg_of X G g1), GC.int (PySem.W.mg_of X G g2), GC.int (PySem.W.mg_of X G g3), GC.int (PySem.W.mg_of X G g4), PySem.W.mg_of X G i_accumulate⟩
  have F1 := fun_mk (st := s_check_of) l1 c1 k1
  have b1 := F1.binds (ps := ["octets"]) fun _ _ _ _ _ _ us hl => match us, hl with | [_], _ => rfl
  have F2 := fun_mk (st := s_frame) l2 c2 k2
  have b2 := F2.binds (ps := ["payload"]) fun _ _ _ _ _ _ us hl => match us, hl with | [_], _ => rfl
  have F3 := fun_mk (st := s_octets_of) l3 c3 k3
  have b3 := F3.binds (ps := ["number", "many"]) fun _ _ _ _ _ _ us hl => match us, hl with | [_, _], _ => rfl
  have F4 := fun_mk (st := s_number_of) l4 c4 k4
  have b4 := F4.binds (ps := ["octets"]) fun _ _ _ _ _ _ us hl => match us, hl with | [_], _ => rfl
  have F5 := fun_mk (st := s_whole_frames) l5 c5 k5
  have b5 := F5.binds (ps := ["octets"]) fun _ _ _ _ _ _ us hl => match us, hl with | [_], _ => rfl
  have F6 := fun_mk (st := s_payload_at) l6 c6 k6
  have b6 := F6.binds (ps := ["octets", "at"]) fun _ _ _ _ _ _ us hl => match us, hl with | [_, _], _ => rfl
  have F7 := fun_mk (st := s_law_number) l7 c7 k7
  have b7 := F7.binds (ps := ["script", "k"]) fun _ _ _ _ _ _ us hl => match us, hl with | [_, _], _ => rfl
  have F8 := fun_mk (st := s_law_take) l8 c8 k8
  have b8 := F8.binds (ps := ["box", "size"]) fun _ _ _ _ _ _ us hl => match us, hl with | [_, _], _ => rfl
  have F9 := fun_mk (st := s_law_check) l9 c9 k9
  have b9 := F9.binds (ps := ["octets"]) fun _ _ _ _ _ _ us hl => match us, hl with | [_], _ => rfl
  have F10 := fun_mk (st := s_law_head) l10 c10 k10
  have b10 := F10.binds (ps := ["payload"]) fun _ _ _ _ _ _ us hl => match us, hl with | [_], _ => rfl
  have F11 := fun_mk (st := s_law_payload) l11 c11 k11
  have b11 := F11.binds (ps := ["box"]) fun _ _ _ _ _ _ us hl => match us, hl with | [_], _ => rfl
  have F12 := fun_mk (st := s_law_whole) l12 c12 k12
  have b12 := F12.binds (ps := ["octets"]) fun _ _ _ _ _ _ us hl => match us, hl with | [_], _ => rfl
  have F13 := fun_mk (st := s_law) l13 c13 k13
  refine ⟨PySem.W.fnOf "law" "law" (defArgs s_law) (defBody s_law) (defScope s_law) .none kV13 dc13 pm13 an13 cd13 ct13, fun s v => .of_eq rfl, fun base _ _ => ?_⟩
  have D1 : Def l.prog w K mg base 1 "check_of" 1 p_chk := ⟨_, _, _, ok_check_of F1 GG, PySem.W.mg_of X G a1, k1, b1⟩
  have D3 : Def l.prog w K mg base 1 "octets_of" 2 p_oof := ⟨_, _, _, ok_octets_of F3 GG, PySem.W.mg_of X G a3, k3, b3⟩
  have D4 : Def l.prog w K mg base 1 "number_of" 1 p_num := ⟨_, _, _, ok_number_of F4 GG, PySem.W.mg_of X G a4, k4, b4⟩
  have D6 : Def l.prog w K mg base 2 "payload_at" 2 p_pay := ⟨_, _, _, ok_payload_at F6 GG D4 D1, PySem.W.mg_of X G a6, k6, b6⟩
  have D7 : Def l.prog w K mg base 1 "_law_number" 2 pNumber := ⟨_, _, _, ok_law_number F7 GG, PySem.W.mg_of X G a7, k7, b7⟩
  have D8 : Def l.prog w K mg base 1 "_law_take" 2 pTake := ⟨_, _, _, ok_law_take F8 GG, PySem.W.mg_of X G a8, k8, b8⟩
  have D9 : Def l.prog w K mg base 1 "_law_check" 1 p_lchk := ⟨_, _, _, ok_law_check F9 GG, PySem.W.mg_of X G a9, k9, b9⟩
  have D10 : Def l.prog w K mg base 2 "_law_head" 1 p_lhead := ⟨_, _, _, ok_law_head F10 GG D9, PySem.W.mg_of X G a10, k10, b10⟩
  have D11 : Def l.prog w K mg base 2 "_law_payload" 1 p_lpay := ⟨_, _, _, ok_law_payload F11 GG D8, PySem.W.mg_of X G a11, k11, b11⟩
  have D12 : Def l.prog w K mg base 3 "_law_whole" 1 p_lwh := ⟨_, _, _, ok_law_whole F12 GG D10, PySem.W.mg_of X G a12, k12, b12⟩
  have D2 : Def l.prog w K mg base 2 "frame" 1 p_frame := ⟨_, _, _, ok_frame F2 GG D3 D1, PySem.W.mg_of X G a2, k2, b2⟩
  have D5 : Def l.prog w K mg base 3 "whole_frames" 1 p_wh := ⟨_, _, _, ok_whole_frames F5 GG D6, PySem.W.mg_of X G a5, k5, b5⟩
  exact ok_law F13 GG D7 D8 D9 D10 D11 D12 D1 D2 D5
end K10
open PySem PySem.W PyProof.Rows
set_option maxRecDepth 100000 in
set_option maxHeartbeats 0 in
theorem PySem.Challenge.cw_partmeet_k10_checks_and_frames_holds : PySem.Challenge.rw_partmeet_k10_checks_and_frames.Holds := by
  w_on; o_law; k_head; (case hw => w_witness2)
  k_fill
  refine L2.walk_of (l := PySem.Challenge.rw_partmeet_k10_checks_and_frames) (n := 63) (k := 4) (x := "script") (CX := fun _ => L2.CX0) (sp := fun w => DL.spD _ 1 DL.pLaw) rfl (by decide) rfl ⟨rfl, by decide, by decide⟩ (fun w h Y => PySem.W.kIn_of Y) ?F (fun _ _ a ns hl _ hS => DL.law_start hl hS) (fun _ _ _ _ _ h => h)
  case F =>
    intro w mg fa h KX G hmg
    refine' K10.all_mk KX G hmg ?ya1 ?yl1 ?yc1 ?yk1 ?ya2 ?yl2 ?yc2 ?yk2 ?ya3 ?yl3 ?yc3 ?yk3 ?ya4 ?yl4 ?yc4 ?yk4 ?ya5 ?yl5 ?yc5 ?yk5 ?ya6 ?yl6 ?yc6 ?yk6 ?ya7 ?yl7 ?yc7 ?yk7 ?ya8 ?yl8 ?yc8 ?yk8 ?ya9 ?yl9 ?yc9 ?yk9 ?ya10 ?yl10 ?yc10 ?yk10 ?ya11 ?yl11 ?yc11 ?yk11 ?ya12 ?yl12 ?yc12 ?yk12 ?ya13 ?yl13 ?yc13 ?yk13 ?yz1 ?yz2 ?yz3 ?yz4 ?yz5 ?yz6 ?yz7 ?yz8 ?yg0 ?yg1 ?yg2 ?yg3 ?yg4 ?yi_accumulate
    (case ya1 => k_is)
    (case yl1 => k_is)
    (case yc1 => k_is)
    (case yk1 => k_is)
    (case ya2 => k_is)
    (case yl2 => k_is)
    (case yc2 => k_is)
    (case yk2 => k_is)
    (case ya3 => k_is)
    (case yl3 => k_is)
    (case yc3 => k_is)
    (case yk3 => k_is)
    (case ya4 => k_is)
    (case yl4 => k_is)
    (case yc4 => k_is)
    (case yk4 => k_is)
    (case ya5 => k_is)
    (case yl5 => k_is)
    (case yc5 => k_is)
    (case yk5 => k_is)
    (case ya6 => k_is)
    (case yl6 => k_is)
    (case yc6 => k_is)
    (case yk6 => k_is)
    (case ya7 => k_is)
    (case yl7 => k_is)
    (case yc7 => k_is)
    (case yk7 => k_is)
    (case ya8 => k_is)
    (case yl8 => k_is)
    (case yc8 => k_is)
    (case yk8 => k_is)
    (case ya9 => k_is)
    (case yl9 => k_is)
    (case yc9 => k_is)
    (case yk9 => k_is)
    (case ya10 => k_is)
    (case yl10 => k_is)
    (case yc10 => k_is)
    (case yk10 => k_is)
    (case ya11 => k_is)
    (case yl11 => k_is)
    (case yc11 => k_is)
    (case yk11 => k_is)
    (case ya12 => k_is)
    (case yl12 => k_is)
    (case yc12 => k_is)
    (case yk12 => k_is)
    (case ya13 => k_is)
    (case yl13 => k_is)
    (case yc13 => k_is)
    (case yk13 => k_is)
    (case yz1 => k_is)
    (case yz2 => k_is)
    (case yz3 => k_is)
    (case yz4 => k_is)
    (case yz5 => k_is)
    (case yz6 => k_is)
    (case yz7 => k_is)
    (case yz8 => k_is)
    (case yg0 => k_is)
    (case yg1 => k_is)
    (case yg2 => k_is)
    (case yg3 => k_is)
    (case yg4 => k_is)
    (case yi_accumulate => k_is)
