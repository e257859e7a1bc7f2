import PyProof.Rows.All
import Wide.All
import OpenK.AllK
import Wide.FinOn
import HandS.ForMost
import HandS.Deep
import HandS.Walk
import HandS.IsInst
import HandS.TupMul
import HandS.TupAny
import HandS.Zip
import HandS.Conv
import HandS.Wide
import HandS.More
import KE.KDictZip
import HandS.Zip0
import KE.GoesEnum
import KE.DataMinMax
import KE.SortData
import HandS.Comp
import PyProof.P3In
import PyProof.StrOps2
import HandS.Dict
import HandS.DictComp
import HandS.StrMore
import HandS.Codes
import KE.IntTextLaws
import HandS.Exc
import HandS.ExcOwn
import HandS.ExcIs
import HandS.TryOnly
import HandS.WordsExc
import KE.OsScanText
import HandS.SetBool
import HandS.SetKeys
import KE.SortCalls
import HandS.SortKw
import KE.SortKeyHeap
import KE.KSortKey
import HandS.Small
import HandS.NoneIn
import HandS.DictTup
import PyProof.DictMoreH
import PyProof.EqKinds
import HandS.DeepEq
import HandS.Iter
import PySem.Challenge.RW_partmeet_k60_clients_and_mail
set_option Elab.async false
set_option linter.all false
set_option maxRecDepth 100000
set_option maxHeartbeats 2000000
namespace L2
open PySem PySem.Spec PyProof.Rows
/-! data at any depth; the lists tracked -/
mutual
inductive Dv (K : PySem.W.Frag) (H : Hp) : V → PyData → Prop
  | non : Dv K H .non .none
  | bl (b : Bool) : Dv K H (.bl b) (.bool b)
  | int (i : Int) : Dv K H (.int i) (.int i)
  | str (x : Str) : Dv K H (.str x) (.str x)
  | lst {a : Addr} {xs : List V} {ds : List PyData} : H a = some (.lst xs) → DvAll K H xs ds → Dv K H (.ref a) (.list ds)
  | tup {a : Addr} {xs : List V} {ds : List PyData} : SqT K H a xs → DvAll K H xs ds → Dv K H (.ref a) (.tuple ds)
inductive DvAll (K : PySem.W.Frag) (H : Hp) : List V → List PyData → Prop
  | nil : DvAll K H [] []
  | cons {v : V} {vs : List V} {d : PyData} {ds : List PyData} : Dv K H v d → DvAll K H vs ds → DvAll K H (v :: vs) (d :: ds)
end
mutual
theorem Dv.dp {K : PySem.W.Frag} {H : Hp} : ∀ {v : V} {d : PyData}, Dv K H v d → Dp K H v d
  | _, _, .non => .non
  | _, _, .bl b => .bl b
  | _, _, .int i => .int i
  | _, _, .str x => .str x
  | _, _, .lst h a => .lst (SqL.of h) (DvAll.dp a)
  | _, _, .tup h a => .tup h (DvAll.dp a)
theorem DvAll.dp {K : PySem.W.Frag} {H : Hp} : ∀ {vs : List V} {ds : List PyData}, DvAll K H vs ds → DpAll K H vs ds
  | _, _, .nil => .nil
  | _, _, .cons a b => .cons (Dv.dp a) (DvAll.dp b)
end
end L2
namespace DL
open PySem PySem.Spec PyProof.Rows L2

/-! ### heaps and data -/
theorem same_t {K : PySem.W.Frag} {H H' : Hp} {a : Addr} {xs : List V} (e : Same H H') (h : SqT K H a xs) : SqT K H' a xs := by
  rcases h with (h | ⟨o, h⟩) | h
  · exact .inl (.inl (e _ _ h))
  · exact .inl (.inr ⟨o, e _ _ h⟩)
  · exact .inr h
theorem same_new {H : Hp} {p : Addr} {o : HO} (h : H p = none) : Same H (upd H p o) := fun a u e => by
  rw [upd_ne (ne_of_none e h)]
  exact e
section
variable {K : PySem.W.Frag} {H H' : Hp}
mutual
theorem dp_mono (e : Same H H') : ∀ {v : V} {d : PyData}, Dp K H v d → Dp K H' v d
  | _, _, .non => .non
  | _, _, .bl b => .bl b
  | _, _, .int i => .int i
  | _, _, .str x => .str x
  | _, _, .lst h a => .lst (e.seq h) (dpAll_mono e a)
  | _, _, .tup h a => .tup (same_t e h) (dpAll_mono e a)
theorem dpAll_mono (e : Same H H') : ∀ {vs : List V} {ds : List PyData}, DpAll K H vs ds → DpAll K H' vs ds
  | _, _, .nil => .nil
  | _, _, .cons a b => .cons (dp_mono e a) (dpAll_mono e b)
end
mutual
theorem dv_mono (e : Same H H') : ∀ {v : V} {d : PyData}, Dv K H v d → Dv K H' v d
  | _, _, .non => .non
  | _, _, .bl b => .bl b
  | _, _, .int i => .int i
  | _, _, .str x => .str x
  | _, _, .lst h a => .lst (e _ _ h) (dvAll_mono e a)
  | _, _, .tup h a => .tup (same_t e h) (dvAll_mono e a)
theorem dvAll_mono (e : Same H H') : ∀ {vs : List V} {ds : List PyData}, DvAll K H vs ds → DvAll K H' vs ds
  | _, _, .nil => .nil
  | _, _, .cons a b => .cons (dv_mono e a) (dvAll_mono e b)
end
end
end DL
namespace L2
open PySem PySem.Spec PyProof.Rows
section
variable {K : PySem.W.Frag} {H H' : Hp}
theorem DvAll.len : ∀ {vs : List V} {ds : List PyData}, DvAll K H vs ds → vs.length = ds.length
  | _, _, .nil => rfl
  | _, _, .cons _ b => congrArg (· + 1) (DvAll.len b)
theorem DvAll.at : ∀ {vs : List V} {ds : List PyData}, DvAll K H vs ds → ∀ {i : Nat} {v : V} {d : PyData}, vs[i]? = some v → ds[i]? = some d → Dv K H v d
  | _, _, .nil, i, v, d, h, _ => by simp at h
  | _, _, .cons a b, 0, v, d, h, g => by simp at h g; subst h; subst g; exact a
  | _, _, .cons a b, i + 1, v, d, h, g => DvAll.at b (i := i) (by simpa using h) (by simpa using g)
theorem DvAll.get {vs : List V} {ds : List PyData} (h : DvAll K H vs ds) {i : Nat} {d : PyData} (g : ds[i]? = some d) : ∃ v, vs[i]? = some v ∧ Dv K H v d := by
  have hi : i < ds.length := (List.getElem?_eq_some_iff.mp g).1
  have hv : i < vs.length := by rw [h.len]; exact hi
  exact ⟨vs[i], List.getElem?_eq_getElem hv, h.at (List.getElem?_eq_getElem hv) g⟩
theorem DvAll.getV {vs : List V} {ds : List PyData} (h : DvAll K H vs ds) {i : Nat} {v : V} (g : vs[i]? = some v) : ∃ d, ds[i]? = some d ∧ Dv K H v d := by
  have hi : i < vs.length := (List.getElem?_eq_some_iff.mp g).1
  have hv : i < ds.length := by rw [← h.len]; exact hi
  exact ⟨ds[i], List.getElem?_eq_getElem hv, h.at g (List.getElem?_eq_getElem hv)⟩
theorem DvAll.of : ∀ {vs : List V} {ds : List PyData}, vs.length = ds.length → (∀ (i : Nat) (v : V) (d : PyData), vs[i]? = some v → ds[i]? = some d → Dv K H v d) → DvAll K H vs ds
  | [], [], _, _ => .nil
  | v :: vs, d :: ds, h, g => .cons (g 0 v d rfl rfl) (DvAll.of (by simpa using h) fun i v d a b => g (i + 1) v d (by simpa using a) (by simpa using b))
  | [], _ :: _, h, _ => by simp at h
  | _ :: _, [], h, _ => by simp at h
theorem DvAll.app : ∀ {vs : List V} {ds : List PyData} {us : List V} {es : List PyData}, DvAll K H vs ds → DvAll K H us es → DvAll K H (vs ++ us) (ds ++ es)
  | _, _, _, _, .nil, g => g
  | _, _, _, _, .cons a b, g => .cons a (DvAll.app b g)
theorem DvAll.snoc {vs : List V} {ds : List PyData} {v : V} {d : PyData} (h : DvAll K H vs ds) (g : Dv K H v d) : DvAll K H (vs ++ [v]) (ds ++ [d]) := h.app (.cons g .nil)
theorem DvAll.take : ∀ {vs : List V} {ds : List PyData} (n : Nat), DvAll K H vs ds → DvAll K H (vs.take n) (ds.take n)
  | _, _, 0, _ => .nil
  | _, _, _ + 1, .nil => .nil
  | _, _, n + 1, .cons a b => .cons a (DvAll.take n b)
theorem DvAll.drop : ∀ {vs : List V} {ds : List PyData} (n : Nat), DvAll K H vs ds → DvAll K H (vs.drop n) (ds.drop n)
  | _, _, 0, h => h
  | _, _, _ + 1, .nil => .nil
  | _, _, n + 1, .cons _ b => DvAll.drop n b
theorem DvAll.set : ∀ {vs : List V} {ds : List PyData} (n : Nat) {v : V} {d : PyData}, DvAll K H vs ds → Dv K H v d → DvAll K H (vs.set n v) (ds.set n d)
  | _, _, _, _, _, .nil, _ => .nil
  | _, _, 0, _, _, .cons _ b, g => .cons g b
  | _, _, n + 1, _, _, .cons a b, g => .cons a (DvAll.set n b g)
theorem DvAll.nil_iff {vs : List V} {ds : List PyData} (h : DvAll K H vs ds) : vs = [] ↔ ds = [] := by
  cases h with
  | nil => simp
  | cons a b => simp
/-- ints -/
theorem DvAll.ints : ∀ {ns : List Int} {vs : List V}, DvAll K H vs (ns.map PyData.int) → vs = ns.map V.int
  | [], _, h => by cases h; rfl
  | n :: ns, _, h => by
    cases h with
    | cons a b =>
      cases a
      rw [DvAll.ints (ns := ns) b]
      rfl
theorem DvAll.ofInts : ∀ (ns : List Int), DvAll K H (ns.map V.int) (ns.map PyData.int)
  | [] => .nil
  | n :: ns => .cons (.int n) (DvAll.ofInts ns)
theorem DvAll.bools : ∀ {ns : List Bool} {vs : List V}, DvAll K H vs (ns.map PyData.bool) → vs = ns.map V.bl
  | [], _, h => by cases h; rfl
  | n :: ns, _, h => by
    cases h with
    | cons a b =>
      cases a
      rw [DvAll.bools (ns := ns) b]
      rfl
theorem DvAll.strs : ∀ {ns : List Str} {vs : List V}, DvAll K H vs (ns.map PyData.str) → vs = ns.map V.str
  | [], _, h => by cases h; rfl
  | n :: ns, _, h => by
    cases h with
    | cons a b =>
      cases a
      rw [DvAll.strs (ns := ns) b]
      rfl
end

end L2
namespace DL
open PySem PySem.Spec PyProof.Rows L2
/-! ### what a slot, a cell holds -/
/-- data that stays, or a value as it is -/
inductive W where
  | d (x : PyData)
  | s (x : PyData)
  | r (v : V)
/-- any other kind of owned thing, by what it must keep -/
structure XC where
  ok : PySem.W.Frag → Hp → Hp → Addr → Prop
  mono : ∀ {K : PySem.W.Frag} {Hr Hr' H : Hp} {p : Addr}, Same Hr Hr' → ok K Hr H p → ok K Hr' H p
  some_ : ∀ {K : PySem.W.Frag} {Hr H : Hp} {p : Addr}, ok K Hr H p → ∃ o, H p = some o
  heap : ∀ {K : PySem.W.Frag} {Hr H H' : Hp} {p : Addr}, ok K Hr H p → H' p = H p → ok K Hr H' p
/-- what an owned address holds: a list of data, or any thing -/
inductive Cell where
  | l (ds : List PyData)
  | o (h : HO)
  | k (kvs : List (Key × PyData))
  | t (kvs : List (List Key × PyData))
  | x (r : XC)
abbrev Own := List (Addr × Cell)
abbrev Tau := List (Option W)

def WOk (K : PySem.W.Frag) (Hr : Hp) (v : V) : W → Prop
  | .d x => Dv K Hr v x
  | .s x => Dp K Hr v x
  | .r u => v = u
/-- what a dict's values are -/
abbrev KD {κ : Type} (K : PySem.W.Frag) (Hr : Hp) : List (κ × V) → List (κ × PyData) → Prop := Paired fun a b => a.1 = b.1 ∧ Dv K Hr a.2 b.2
theorem KD.mono {κ : Type} {K : PySem.W.Frag} {Hr Hr' : Hp} (e : Same Hr Hr') {vs : List (κ × V)} {kvs : List (κ × PyData)} (h : KD K Hr vs kvs) : KD K Hr' vs kvs := Paired.mapP h fun _ _ q => ⟨q.1, dv_mono e q.2⟩
def CellOk (K : PySem.W.Frag) (Hr H : Hp) (p : Addr) : Cell → Prop
  | .l ds => ∃ vs, H p = some (.lst vs) ∧ DvAll K Hr vs ds
  | .o h => H p = some h
  | .k kvs => ∃ vs, H p = some (.dK vs) ∧ KD K Hr vs kvs
  | .t kvs => ∃ vs, H p = some (.dT vs) ∧ KD K Hr vs kvs
  | .x r => r.ok K Hr H p
structure Sep (K : PySem.W.Frag) (Hr : Hp) (O : Own) (H : Hp) : Prop where
  ex : Same Hr H
  own : ∀ x ∈ O, Hr x.1 = none ∧ CellOk K Hr H x.1 x.2
  nd : (O.map (·.1)).Nodup
structure En (K : PySem.W.Frag) (Hr : Hp) (σ : L2.St) (τ : Tau) : Prop where
  len : σ.length = τ.length
  at_ : ∀ (i : Nat) (w : W), τ[i]? = some (some w) → ∃ v, σ[i]? = some (some v) ∧ WOk K Hr v w

section
variable {K : PySem.W.Frag} {Hr Hr' H H' : Hp} {O O' : Own} {σ : L2.St} {τ : Tau} {v : V} {w : W}
theorem WOk.mono (e : Same Hr Hr') (h : WOk K Hr v w) : WOk K Hr' v w := by
  cases w with
  | d x => exact dv_mono e h
  | s x => exact dp_mono e h
  | r u => exact h
theorem CellOk.mono {p : Addr} {c : Cell} (e : Same Hr Hr') (h : CellOk K Hr H p c) : CellOk K Hr' H p c := by
  cases c with
  | l ds =>
    obtain ⟨vs, a, b⟩ := h
    exact ⟨vs, a, dvAll_mono e b⟩
  | o u => exact h
  | k kvs =>
    obtain ⟨vs, a, b⟩ := h
    exact ⟨vs, a, b.mono e⟩
  | t kvs =>
    obtain ⟨vs, a, b⟩ := h
    exact ⟨vs, a, b.mono e⟩
  | x r => exact r.mono e h
theorem CellOk.some {p : Addr} {c : Cell} (h : CellOk K Hr H p c) : ∃ o, H p = some o := by
  cases c with
  | l ds =>
    obtain ⟨vs, a, b⟩ := h
    exact ⟨_, a⟩
  | o u => exact ⟨_, h⟩
  | k kvs =>
    obtain ⟨vs, a, b⟩ := h
    exact ⟨_, a⟩
  | t kvs =>
    obtain ⟨vs, a, b⟩ := h
    exact ⟨_, a⟩
  | x r => exact r.some_ h
theorem CellOk.heap {p : Addr} {c : Cell} (h : CellOk K Hr H p c) (e : H' p = H p) : CellOk K Hr H' p c := by
  cases c with
  | l ds =>
    obtain ⟨vs, a, b⟩ := h
    exact ⟨vs, e.trans a, b⟩
  | o u => exact e.trans h
  | k kvs =>
    obtain ⟨vs, a, b⟩ := h
    exact ⟨vs, e.trans a, b⟩
  | t kvs =>
    obtain ⟨vs, a, b⟩ := h
    exact ⟨vs, e.trans a, b⟩
  | x r => exact r.heap h e
theorem En.mono (e : Same Hr Hr') (h : En K Hr σ τ) : En K Hr' σ τ := ⟨h.len, fun i w q => by
  obtain ⟨v, a, b⟩ := h.at_ i w q
  exact ⟨v, a, b.mono e⟩⟩
theorem En.set (h : En K Hr σ τ) (i : Nat) (q : WOk K Hr v w) : En K Hr (σ.set i (some v)) (τ.set i (some w)) := by
  refine ⟨by rw [List.length_set, List.length_set]; exact h.len, fun j u a => ?_⟩
  rw [List.getElem?_set] at a
  rw [List.getElem?_set]
  by_cases hij : i = j
  · subst hij
    rw [if_pos rfl] at a
    rw [if_pos rfl]
    by_cases hl : i < τ.length
    · rw [if_pos hl] at a
      cases a
      rw [if_pos (by rw [h.len]; exact hl)]
      exact ⟨v, rfl, q⟩
    · rw [if_neg hl] at a
      cases a
  · rw [if_neg hij] at a
    rw [if_neg hij]
    exact h.at_ j u a
/-- a fresh address: it is no owned one -/
theorem Sep.fresh (S : Sep K Hr O H) {p : Addr} (h : H p = none) : Hr p = none ∧ ∀ x ∈ O, x.1 ≠ p := by
  refine ⟨S.ex.free h, fun x hx e => ?_⟩
  obtain ⟨o, q⟩ := (S.own x hx).2.some
  rw [e, h] at q
  cases q
/-- a new thing that stays -/
theorem Sep.new (S : Sep K Hr O H) {p : Addr} {o : HO} (h : H p = none) : Sep K (upd Hr p o) O (upd H p o) := by
  obtain ⟨h1, h2⟩ := S.fresh h
  refine ⟨fun a u e => ?_, fun x hx => ?_, S.nd⟩
  · by_cases q : a = p
    · subst q
      rw [upd_same] at e ⊢
      exact e
    · rw [upd_ne q] at e ⊢
      exact S.ex a u e
  · have ne := h2 x hx
    obtain ⟨a, b⟩ := S.own x hx
    exact ⟨by rw [upd_ne ne]; exact a, (b.mono (same_new h1)).heap (upd_ne ne)⟩
/-- a new thing that is owned -/
theorem Sep.newOwn (S : Sep K Hr O H) {p : Addr} {o : HO} {c : Cell} (h : H p = none) (hc : CellOk K Hr (upd H p o) p c) : Sep K Hr ((p, c) :: O) (upd H p o) := by
  obtain ⟨h1, h2⟩ := S.fresh h
  refine ⟨fun a u e => ?_, fun x hx => ?_, ?_⟩
  · rw [upd_ne (ne_of_none e h1)]
    exact S.ex a u e
  · rcases List.mem_cons.mp hx with e | e
    · subst e
      exact ⟨h1, hc⟩
    · obtain ⟨a, b⟩ := S.own x e
      exact ⟨a, b.heap (upd_ne (h2 x e))⟩
  · rw [List.map_cons, List.nodup_cons]
    refine ⟨fun m => ?_, S.nd⟩
    obtain ⟨x, hx, e⟩ := List.mem_map.mp m
    exact h2 x hx e
/-- an owned thing is written -/
theorem Sep.put (S : Sep K Hr O H) {j : Nat} {p : Addr} {c c' : Cell} {o : HO} (hj : O[j]? = some (p, c)) (hc : CellOk K Hr (upd H p o) p c') : Sep K Hr (O.set j (p, c')) (upd H p o) := by
  have hjl : j < O.length := (List.getElem?_eq_some_iff.mp hj).1
  have hm : (p, c) ∈ O := List.mem_of_getElem? hj
  have h1 := (S.own _ hm).1
  have keys : (O.set j (p, c')).map (·.1) = O.map (·.1) := by
    rw [List.map_set]
    apply List.ext_getElem?
    intro i
    rw [List.getElem?_set]
    by_cases e : j = i
    · subst e
      rw [if_pos rfl, if_pos (by rw [List.length_map]; exact hjl), List.getElem?_map, hj]
      rfl
    · rw [if_neg e]
  refine ⟨fun a u e => ?_, fun x hx => ?_, by rw [keys]; exact S.nd⟩
  · rw [upd_ne (ne_of_none e h1)]
    exact S.ex a u e
  · obtain ⟨i, hi⟩ := List.mem_iff_getElem?.mp hx
    rw [List.getElem?_set] at hi
    by_cases e : j = i
    · subst e
      rw [if_pos rfl, if_pos hjl] at hi
      cases hi
      exact ⟨h1, hc⟩
    · rw [if_neg e] at hi
      have hx' : x ∈ O := List.mem_of_getElem? hi
      have ne : x.1 ≠ p := fun q => by
        have hil : i < O.length := (List.getElem?_eq_some_iff.mp hi).1
        have a1 : (O.map (·.1))[i]? = some p := by rw [List.getElem?_map, hi]; simp [q]
        have a2 : (O.map (·.1))[j]? = some p := by rw [List.getElem?_map, hj]; rfl
        have nd := S.nd
        exact e ((List.getElem?_inj (by rw [List.length_map]; exact hjl) nd).mp (a2.trans a1.symm))
      obtain ⟨a, b⟩ := S.own x hx'
      exact ⟨a, b.heap (upd_ne ne)⟩
theorem Sep.cell (S : Sep K Hr O H) {j : Nat} {p : Addr} {c : Cell} (hj : O[j]? = some (p, c)) : CellOk K Hr H p c := (S.own _ (List.mem_of_getElem? hj)).2
/-- an owned list is let go: it stays from now on -/
theorem Sep.keep (S : Sep K Hr ((p, .l ds) :: O) H) : ∃ Hr', Same Hr Hr' ∧ Sep K Hr' O H ∧ Dv K Hr' (.ref p) (.list ds) := by
  obtain ⟨h1, vs, h2, h3⟩ := S.own _ List.mem_cons_self
  have e := same_new (o := .lst vs) h1
  refine ⟨upd Hr p (.lst vs), e, ⟨fun a u q => ?_, fun x hx => ?_, ?_⟩, .lst upd_same (dvAll_mono e h3)⟩
  · by_cases r : a = p
    · subst r
      rw [upd_same] at q
      cases q
      exact h2
    · rw [upd_ne r] at q
      exact S.ex a u q
  · obtain ⟨a, b⟩ := S.own x (List.mem_cons_of_mem _ hx)
    have ne : x.1 ≠ p := fun q => by
      have nd := S.nd
      rw [List.map_cons, List.nodup_cons] at nd
      exact nd.1 (List.mem_map.mpr ⟨x, hx, q⟩)
    exact ⟨by rw [upd_ne ne]; exact a, b.mono e⟩
  · have nd := S.nd
    rw [List.map_cons, List.nodup_cons] at nd
    exact nd.2
/-- an owned thing is forgotten -/
theorem Sep.drop (S : Sep K Hr (x :: O) H) : Sep K Hr O H := ⟨S.ex, fun y hy => S.own y (List.mem_cons_of_mem _ hy), by
  have nd := S.nd
  rw [List.map_cons, List.nodup_cons] at nd
  exact nd.2⟩
end
end DL

set_option Elab.async false
set_option linter.all false
set_option maxRecDepth 100000
set_option maxHeartbeats 2000000
namespace DL
open PySem PySem.Spec PyProof.Rows L2

/-! ### the strongest readings -/
def te (X : Cx) (e : Expr) : TE := fun σ H Q => ∀ (pins : List (Addr × Obj)) (s : Shared), Inv X pins σ H s → wpAny (model X.prog X.w) X.A (eval e X.env) (EP X pins σ Q) X.xe s
def tt (X : Cx) (e : Expr) : TT := fun σ H Q => ∀ (pins : List (Addr × Obj)) (s : Shared), Inv X pins σ H s → wpAny (model X.prog X.w) X.A (isTrue e X.env (eval e X.env)) (TP X pins σ Q) X.xe s
def tw (X : Cx) (e : Expr) : TT := fun σ H Q => ∀ (whole : Sem Value) (pins : List (Addr × Obj)) (s : Shared), Inv X pins σ H s → wpAny (model X.prog X.w) X.A (isTrue e X.env whole) (TP X pins σ Q) X.xe s
def ta (X : Cx) (es : List Expr) : TA := fun σ H Q => ∀ (pos : Pos) (pins : List (Addr × Obj)) (s : Shared), Inv X pins σ H s → wpAny (model X.prog X.w) X.A (spliced (backTo pos (starEach es X.env))) (AP X pins σ Q) X.xe s
def ts (X : Cx) (st : Stmt) : TS := fun D σ H => ∀ (pins : List (Addr × Obj)) (s : Shared), Inv X pins σ H s → wpAny (model X.prog X.w) X.A (exec st X.env) (SP X pins D) X.xe s
def tss (X : Cx) (st : List Stmt) : TS := fun D σ H => ∀ (pins : List (Addr × Obj)) (s : Shared), Inv X pins σ H s → wpAny (model X.prog X.w) X.A (execs st X.env) (SP X pins D) X.xe s
section
variable {X : Cx} {e : Expr} {es : List Expr} {st : Stmt} {sts : List Stmt}
theorem pe_te : PE X e (te X e) := ⟨fun pins s _ _ _ I h => h pins s I⟩
theorem pt_tt : PT X e (tt X e) := ⟨fun pins s _ _ _ I h => h pins s I⟩
theorem pw_tw : PW X e (tw X e) := ⟨fun whole pins s _ _ _ I h => h whole pins s I⟩
theorem pa_ta : PA X es (ta X es) := ⟨fun pos pins s _ _ _ I h => h pos pins s I⟩
theorem ps_ts : PS X st (ts X st) := ⟨fun pins s _ _ _ I h => h pins s I⟩
theorem pss_tss : PSs X sts (tss X sts) := ⟨fun pins s _ _ _ I h => h pins s I⟩
theorem te_mono {σ : L2.St} {H : Hp} {Q Q' : VK} (h : te X e σ H Q) (q : ∀ v H', Q v H' → Q' v H') : te X e σ H Q' := fun pins s I => thn (h pins s I) fun u s' ⟨v, H', I', r, p⟩ => ⟨v, H', I', r, q v H' p⟩
end
/-- operations by values: the strongest -/
def BR (X : Cx) (f : Value → Value → Sem Value) : R2 := fun x y H Q => ∀ (pins : List (Addr × Obj)) (s : Shared) (σ : L2.St) (v u : Value), Inv X pins σ H s → RelV x v → RelV y u → wpAny (model X.prog X.w) X.A (f v u) (EP X pins σ Q) X.xe s
theorem br_ok {X : Cx} {f : Value → Value → Sem Value} : OpR X f (BR X f) := fun pins s σ H x y v u Q I r1 r2 h => h pins s σ v u I r1 r2
def UR (X : Cx) (f : Value → Sem Value) : V → Hp → VK → Prop := fun x H Q => ∀ (pins : List (Addr × Obj)) (s : Shared) (σ : L2.St) (v : Value), Inv X pins σ H s → RelV x v → wpAny (model X.prog X.w) X.A (f v) (EP X pins σ Q) X.xe s
theorem ur_ok {X : Cx} {f : Value → Sem Value} : UnR X f (UR X f) := fun pins s σ H x v Q I r h => h pins s σ v I r
def CRr (X : Cx) (f : Value) : List V → Hp → VK → Prop := fun xs H Q => ∀ (pins : List (Addr × Obj)) (s : Shared) (σ : L2.St) (us : List Value), Inv X pins σ H s → Vals xs us → wpAny (model X.prog X.w) X.A (call f us) (EP X pins σ Q) X.xe s
theorem cr_ok {X : Cx} {f : Value} : CallR X f (CRr X f) := fun pins s σ H xs us Q I r h => h pins s σ us I r
def MR (X : Cx) (id : String) : V → List V → Hp → VK → Prop := fun x xs H Q => ∀ (pins : List (Addr × Obj)) (s : Shared) (σ : L2.St) (v : Value) (us : List Value), Inv X pins σ H s → RelV x v → Vals xs us → wpAny (model X.prog X.w) X.A (call (.builtin id) (v :: us)) (EP X pins σ Q) X.xe s
theorem mr_ok {X : Cx} {id : String} : MtR X id (MR X id) := fun pins s σ H x xs v us Q I r1 r2 h => h pins s σ v us I r1 r2

/-! ### what is wanted, at the level of data -/
def PO (K : PySem.W.Frag) (Hr : Hp) (P : W → Own → Prop) : VK := fun v H' => ∃ w O' Hr', P w O' ∧ Same Hr Hr' ∧ Sep K Hr' O' H' ∧ WOk K Hr' v w
def TQ (K : PySem.W.Frag) (Hr : Hp) (P : Bool → Own → Prop) : Bool → Hp → Prop := fun b H' => ∃ O' Hr', P b O' ∧ Same Hr Hr' ∧ Sep K Hr' O' H'
inductive WOks (K : PySem.W.Frag) (Hr : Hp) : List V → List W → Prop
  | nil : WOks K Hr [] []
  | cons {v : V} {w : W} {vs : List V} {ws : List W} : WOk K Hr v w → WOks K Hr vs ws → WOks K Hr (v :: vs) (w :: ws)
theorem WOks.mono {K : PySem.W.Frag} {Hr Hr' : Hp} (e : Same Hr Hr') : ∀ {vs : List V} {ws : List W}, WOks K Hr vs ws → WOks K Hr' vs ws
  | _, _, .nil => .nil
  | _, _, .cons a b => .cons (a.mono e) (WOks.mono e b)
theorem WOks.len {K : PySem.W.Frag} {Hr : Hp} : ∀ {vs : List V} {ws : List W}, WOks K Hr vs ws → vs.length = ws.length
  | _, _, .nil => rfl
  | _, _, .cons _ b => congrArg (· + 1) (WOks.len b)
theorem WOks.data {K : PySem.W.Frag} {Hr : Hp} : ∀ {ds : List PyData} {vs : List V}, WOks K Hr vs (ds.map W.d) → DvAll K Hr vs ds
  | [], _, h => by cases h; exact .nil
  | d :: ds, _, h => by
    cases h with
    | cons a b => exact .cons a (WOks.data b)
def AO (K : PySem.W.Frag) (Hr : Hp) (P : List W → Own → Prop) : List V → Hp → Prop := fun vs H' => ∃ ws O' Hr', P ws O' ∧ Same Hr Hr' ∧ Sep K Hr' O' H' ∧ WOks K Hr' vs ws

/-- e is evaluated where the slots hold τ and O is owned: P of what comes and of what is owned then -/
def DER (X : Cx) (τ : Tau) (O : Own) (e : Expr) (P : W → Own → Prop) : Prop :=
  ∀ (σ : L2.St) (Hr H : Hp) (Q : VK), En X.K Hr σ τ → Sep X.K Hr O H → (∀ v H', PO X.K Hr P v H' → Q v H') → te X e σ H Q
structure DE (X : Cx) (τ : Tau) (O : Own) (e : Expr) (P : W → Own → Prop) : Prop where
  go : DER X τ O e P
instance {X : Cx} {τ : Tau} {O : Own} {e : Expr} {P : W → Own → Prop} : CoeFun (DE X τ O e P) (fun _ => DER X τ O e P) := ⟨DE.go⟩
def DTR (X : Cx) (τ : Tau) (O : Own) (e : Expr) (P : Bool → Own → Prop) : Prop :=
  ∀ (σ : L2.St) (Hr H : Hp) (Q : Bool → Hp → Prop), En X.K Hr σ τ → Sep X.K Hr O H → (∀ v H', TQ X.K Hr P v H' → Q v H') → tt X e σ H Q
structure DT (X : Cx) (τ : Tau) (O : Own) (e : Expr) (P : Bool → Own → Prop) : Prop where
  go : DTR X τ O e P
instance {X : Cx} {τ : Tau} {O : Own} {e : Expr} {P : Bool → Own → Prop} : CoeFun (DT X τ O e P) (fun _ => DTR X τ O e P) := ⟨DT.go⟩
def DWhR (X : Cx) (τ : Tau) (O : Own) (e : Expr) (P : Bool → Own → Prop) : Prop :=
  ∀ (σ : L2.St) (Hr H : Hp) (Q : Bool → Hp → Prop), En X.K Hr σ τ → Sep X.K Hr O H → (∀ v H', TQ X.K Hr P v H' → Q v H') → tw X e σ H Q
structure DWh (X : Cx) (τ : Tau) (O : Own) (e : Expr) (P : Bool → Own → Prop) : Prop where
  go : DWhR X τ O e P
instance {X : Cx} {τ : Tau} {O : Own} {e : Expr} {P : Bool → Own → Prop} : CoeFun (DWh X τ O e P) (fun _ => DWhR X τ O e P) := ⟨DWh.go⟩
def DAR (X : Cx) (τ : Tau) (O : Own) (es : List Expr) (P : List W → Own → Prop) : Prop :=
  ∀ (σ : L2.St) (Hr H : Hp) (Q : List V → Hp → Prop), En X.K Hr σ τ → Sep X.K Hr O H → (∀ v H', AO X.K Hr P v H' → Q v H') → ta X es σ H Q
structure DA (X : Cx) (τ : Tau) (O : Own) (es : List Expr) (P : List W → Own → Prop) : Prop where
  go : DAR X τ O es P
instance {X : Cx} {τ : Tau} {O : Own} {es : List Expr} {P : List W → Own → Prop} : CoeFun (DA X τ O es P) (fun _ => DAR X τ O es P) := ⟨DA.go⟩
/-- by values -/
def BinDR (X : Cx) (f : Value → Value → Sem Value) (w1 w2 : W) (O : Own) (P : W → Own → Prop) : Prop :=
  ∀ (v1 v2 : V) (Hr H : Hp) (Q : VK), Sep X.K Hr O H → WOk X.K Hr v1 w1 → WOk X.K Hr v2 w2 → (∀ v H', PO X.K Hr P v H' → Q v H') → BR X f v1 v2 H Q
structure BinD (X : Cx) (f : Value → Value → Sem Value) (w1 w2 : W) (O : Own) (P : W → Own → Prop) : Prop where
  go : BinDR X f w1 w2 O P
instance {X : Cx} {f : Value → Value → Sem Value} {w1 w2 : W} {O : Own} {P : W → Own → Prop} : CoeFun (BinD X f w1 w2 O P) (fun _ => BinDR X f w1 w2 O P) := ⟨BinD.go⟩
def UnDR (X : Cx) (f : Value → Sem Value) (w : W) (O : Own) (P : W → Own → Prop) : Prop :=
  ∀ (v : V) (Hr H : Hp) (Q : VK), Sep X.K Hr O H → WOk X.K Hr v w → (∀ v H', PO X.K Hr P v H' → Q v H') → UR X f v H Q
structure UnD (X : Cx) (f : Value → Sem Value) (w : W) (O : Own) (P : W → Own → Prop) : Prop where
  go : UnDR X f w O P
instance {X : Cx} {f : Value → Sem Value} {w : W} {O : Own} {P : W → Own → Prop} : CoeFun (UnD X f w O P) (fun _ => UnDR X f w O P) := ⟨UnD.go⟩
def CallDR (X : Cx) (f : Value) (ws : List W) (O : Own) (P : W → Own → Prop) : Prop :=
  ∀ (vs : List V) (Hr H : Hp) (Q : VK), Sep X.K Hr O H → WOks X.K Hr vs ws → (∀ v H', PO X.K Hr P v H' → Q v H') → CRr X f vs H Q
structure CallD (X : Cx) (f : Value) (ws : List W) (O : Own) (P : W → Own → Prop) : Prop where
  go : CallDR X f ws O P
instance {X : Cx} {f : Value} {ws : List W} {O : Own} {P : W → Own → Prop} : CoeFun (CallD X f ws O P) (fun _ => CallDR X f ws O P) := ⟨CallD.go⟩
/-- a method of a built-in type: the receiver, the arguments -/
def MetDR (X : Cx) (T id : String) (w : W) (ws : List W) (O : Own) (P : W → Own → Prop) : Prop :=
  ∀ (v : V) (vs : List V) (Hr H : Hp) (Q : VK), Sep X.K Hr O H → WOk X.K Hr v w → WOks X.K Hr vs ws → (∀ v H', PO X.K Hr P v H' → Q v H') → MR X id v vs H Q
structure MetD (X : Cx) (T id : String) (w : W) (ws : List W) (O : Own) (P : W → Own → Prop) : Prop where
  go : MetDR X T id w ws O P
instance {X : Cx} {T id : String} {w : W} {ws : List W} {O : Own} {P : W → Own → Prop} : CoeFun (MetD X T id w ws O P) (fun _ => MetDR X T id w ws O P) := ⟨MetD.go⟩
def IxDR (X : Cx) (w1 w2 : W) (O : Own) (P : W → Own → Prop) : Prop :=
  ∀ (value slice : Expr) (v1 v2 : V) (Hr H : Hp) (Q : VK), Sep X.K Hr O H → WOk X.K Hr v1 w1 → WOk X.K Hr v2 w2 → (∀ v H', PO X.K Hr P v H' → Q v H') →
    ∀ (pins : List (Addr × Obj)) (s : Shared) (σ : L2.St) (v u : Value), Inv X pins σ H s → RelV v1 v → RelV v2 u → subscripted slice false v u = operate [v, u] (getItem v u) →
      wpAny (model X.prog X.w) X.A (subscriptTail value slice v u) (EP X pins σ Q) X.xe s

structure IxD (X : Cx) (w1 w2 : W) (O : Own) (P : W → Own → Prop) : Prop where
  go : IxDR X w1 w2 O P
instance {X : Cx} {w1 w2 : W} {O : Own} {P : W → Own → Prop} : CoeFun (IxD X w1 w2 O P) (fun _ => IxDR X w1 w2 O P) := ⟨IxD.go⟩
section
variable {X : Cx} {τ : Tau} {O : Own} {P : W → Own → Prop} {PB : Bool → Own → Prop} {a b c : Expr} {es rest : List Expr} {pos : Pos} {w w1 w2 : W}
theorem po_to {K : PySem.W.Frag} {Hr Hr' : Hp} (e : Same Hr Hr') {v : V} {H : Hp} (h : PO K Hr' P v H) : PO K Hr P v H := by
  obtain ⟨w, O', Hr2, h1, h2, h3, h4⟩ := h
  exact ⟨w, O', Hr2, h1, e.trans h2, h3, h4⟩
theorem to_to {K : PySem.W.Frag} {Hr Hr' : Hp} (e : Same Hr Hr') {v : Bool} {H : Hp} (h : TQ K Hr' PB v H) : TQ K Hr PB v H := by
  obtain ⟨O', Hr2, h1, h2, h3⟩ := h
  exact ⟨O', Hr2, h1, e.trans h2, h3⟩
theorem ao_to {K : PySem.W.Frag} {PA : List W → Own → Prop} {Hr Hr' : Hp} (e : Same Hr Hr') {v : List V} {H : Hp} (h : AO K Hr' PA v H) : AO K Hr PA v H := by
  obtain ⟨w, O', Hr2, h1, h2, h3, h4⟩ := h
  exact ⟨w, O', Hr2, h1, e.trans h2, h3, h4⟩
/-- the value is here, the heap as it is -/
theorem po_here {K : PySem.W.Frag} {Hr H : Hp} {v : V} (h : P w O) (S : Sep K Hr O H) (k : WOk K Hr v w) : PO K Hr P v H := ⟨w, O, Hr, h, Same.refl _, S, k⟩
/-- a new thing that stays -/
theorem po_new {K : PySem.W.Frag} {Hr H : Hp} {p : Addr} {o : HO} (h : P w O) (S : Sep K Hr O H) (hp : H p = none) (k : WOk K (upd Hr p o) (.ref p) w) : PO K Hr P (.ref p) (upd H p o) :=
  ⟨w, O, upd Hr p o, h, same_new (S.fresh hp).1, S.new hp, k⟩
theorem DE.mono {P' : W → Own → Prop} (h : DE X τ O a P) (q : ∀ w O', P w O' → P' w O') : DE X τ O a P' := ⟨fun σ Hr H Q hE hS hQ =>
  h σ Hr H Q hE hS fun v H' ⟨w, O', Hr', p, e, s, k⟩ => hQ v H' ⟨w, O', Hr', q w O' p, e, s, k⟩⟩
theorem DT.mono {P' : Bool → Own → Prop} (h : DT X τ O a PB) (q : ∀ w O', PB w O' → P' w O') : DT X τ O a P' := ⟨fun σ Hr H Q hE hS hQ =>
  h σ Hr H Q hE hS fun v H' ⟨O', Hr', p, e, s⟩ => hQ v H' ⟨O', Hr', q v O' p, e, s⟩⟩
/-! ### names, constants -/
theorem de_name (i : Nat) {x : Str} (ht : τ[i]? = some (some w)) (h : P w O) (hN : X.N[i]? = some x := by rfl) (hv : Vis X.env.scope x := by first | exact Or.inl rfl | exact Or.inr (Or.inl rfl) | exact Or.inr (Or.inr rfl))
    (hd : (x == ("__debug__" : Str)) = false := by decide) (hcd : (x == ("__classdict__" : Str)) = false := by decide) : DE X τ O (.Name x pos) P := by
  refine ⟨?_⟩
  intro σ Hr H Q hE hS hQ pins s I
  obtain ⟨v, hv1, hw⟩ := hE.at_ i w ht
  exact (pe_var hN hv hd hcd).run pins s σ H Q I ⟨v, hv1, hQ v H (po_here h hS hw)⟩
theorem de_glob {x : Str} {v : V} {u : Value} (hm : X.mg x = some u) (r : RelV v u) (hw : ∀ Hr, WOk X.K Hr v w) (h : P w O) (hg : Gl X x := by rfl) (hd : (x == ("__debug__" : Str)) = false := by decide) : DE X τ O (.Name x pos) P := ⟨fun σ Hr H Q hE hS hQ pins s I => (pe_glob hg hm r hd).run pins s σ H Q I (hQ v H (po_here h hS (hw Hr)))⟩
/-- a built-in type as a value -/
theorem de_ty {x : Str} {T : String} (hm : X.mg x = none) (hv : bootBuiltins x = some (.type T)) (h : P (.r (.ty T)) O) (hg : Gl X x := by rfl) (hn : x ≠ "__name__" := by decide) (hd : (x == ("__debug__" : Str)) = false := by decide) : DE X τ O (.Name x pos) P := ⟨fun σ Hr H Q hE hS hQ pins s I => (pe_bltn (v := .ty T) hg hm hv rfl hn hd).run pins s σ H Q I (hQ _ H (po_here h hS rfl))⟩
theorem de_int {i : Int} {j} (h : P (.d (.int i)) O) : DE X τ O (.Constant (.int i) j pos) P := ⟨fun σ Hr H Q hE hS hQ pins s I => pe_int.run pins s σ H Q I (hQ _ H (po_here h hS (.int i)))⟩
theorem de_str {i : Str} {j} (h : P (.d (.str i)) O) : DE X τ O (.Constant (.str i) j pos) P := ⟨fun σ Hr H Q hE hS hQ pins s I => pe_str.run pins s σ H Q I (hQ _ H (po_here h hS (.str i)))⟩
theorem de_bl {i : Bool} {j} (h : P (.d (.bool i)) O) : DE X τ O (.Constant (.bool i) j pos) P := ⟨fun σ Hr H Q hE hS hQ pins s I => pe_bl.run pins s σ H Q I (hQ _ H (po_here h hS (.bl i)))⟩
theorem de_non {j} (h : P (.d .none) O) : DE X τ O (.Constant .none j pos) P := ⟨fun σ Hr H Q hE hS hQ pins s I => pe_non.run pins s σ H Q I (hQ _ H (po_here h hS .non))⟩
/-! ### operators -/
theorem two {f : Value → Value → Sem Value} (ha : DE X τ O a fun w1 O1 => DE X τ O1 b fun w2 O2 => BinD X f w1 w2 O2 P) {σ : L2.St} {Hr H : Hp} {Q : VK} (hE : En X.K Hr σ τ) (hS : Sep X.K Hr O H) (hQ : ∀ v H', PO X.K Hr P v H' → Q v H') :
    te X a σ H fun x H1 => te X b σ H1 fun y H2 => BR X f x y H2 Q := by
  refine ha σ Hr H _ hE hS fun x H1 ⟨w1, O1, Hr1, h1, e1, s1, k1⟩ => ?_
  refine h1 σ Hr1 H1 _ (hE.mono e1) s1 fun y H2 ⟨w2, O2, Hr2, h2, e2, s2, k2⟩ => ?_
  exact h2 x y Hr2 H2 Q s2 (k1.mono e2) k2 fun v H' q => hQ v H' (po_to (e1.trans e2) q)
theorem de_bin {op : Operator} (h : DE X τ O a fun w1 O1 => DE X τ O1 b fun w2 O2 => BinD X (binaryOp op) w1 w2 O2 P) : DE X τ O (.BinOp a op b pos) P := ⟨fun σ Hr H Q hE hS hQ pins s I => (pe_op br_ok pe_te pe_te).run pins s σ H Q I (two h hE hS hQ)⟩
theorem de_un {op : UnaryOp} (h : DE X τ O a fun w O1 => UnD X (unaryOp op) w O1 P) : DE X τ O (.UnaryOp op a pos) P := ⟨fun σ Hr H Q hE hS hQ pins s I => (pe_un ur_ok pe_te).run pins s σ H Q I
    (h σ Hr H _ hE hS fun x H1 ⟨w1, O1, Hr1, h1, e1, s1, k1⟩ => h1 x Hr1 H1 Q s1 k1 fun v H' q => hQ v H' (po_to e1 q))⟩
theorem de_cmp {op : CmpOp} (h : DE X τ O a fun w1 O1 => DE X τ O1 b fun w2 O2 => BinD X (compareOp op) w1 w2 O2 P) (hm : behindInMarks op b = false := by first | exact nomark _ | rfl) : DE X τ O (.Compare a [op] [b] pos) P := ⟨fun σ Hr H Q hE hS hQ pins s I => (pe_cmpR br_ok pe_te pe_te hm).run pins s σ H Q I (two h hE hS hQ)⟩
/-- what is wanted of a truth value -/
def tb (P : Bool → Own → Prop) : W → Own → Prop
  | .d (.bool k), O => P k O
  | _, _ => False
theorem tb_of {K : PySem.W.Frag} {Hr : Hp} {v : V} {H : Hp} (h : PO K Hr (tb PB) v H) : ∃ k, v = .bl k ∧ TQ K Hr PB k H := by
  obtain ⟨w, O', Hr', p, e, s, k⟩ := h
  cases w with
  | r u => exact p.elim
  | s x => exact p.elim
  | d x =>
    cases x with
    | bool k' =>
      cases k
      exact ⟨k', rfl, O', Hr', p, e, s⟩
    | _ => exact p.elim
/-- a op1 b op2 c -/
theorem de_chain {op op' : CmpOp} (h : DE X τ O a fun w1 O1 => DE X τ O1 b fun w2 O2 => BinD X (compareOp op) w1 w2 O2 (tb fun k O3 => if k = true then DE X τ O3 c fun w3 O4 => BinD X (compareOp op') w2 w3 O4 P else P (.d (.bool false)) O3))
    (hm : lastMarks [op, op'] [b, c] = false := by with_unfolding_all rfl) : DE X τ O (.Compare a [op, op'] [b, c] pos) P := by
  refine ⟨?_⟩
  intro σ Hr H Q hE hS hQ pins s I
  refine (pe_chain br_ok br_ok pe_te pe_te pe_te hm).run pins s σ H Q I ?_
  refine h σ Hr H _ hE hS fun x H1 ⟨w1, O1, Hr1, h1, e1, s1, k1⟩ => ?_
  refine h1 σ Hr1 H1 _ (hE.mono e1) s1 fun y H2 ⟨w2, O2, Hr2, h2, e2, s2, k2⟩ => ?_
  refine h2 x y Hr2 H2 _ s2 (k1.mono e2) k2 fun v H3 q => ?_
  obtain ⟨k, rfl, O3, Hr3, p3, e3, s3⟩ := tb_of q
  refine ⟨k, rfl, ?_⟩
  cases k with
  | true =>
    rw [if_pos rfl]
    rw [if_pos rfl] at p3
    refine p3 σ Hr3 H3 _ (hE.mono ((e1.trans e2).trans e3)) s3 fun z H4 ⟨w3, O4, Hr4, h4, e4, s4, k4⟩ => ?_
    exact h4 y z Hr4 H4 Q s4 (k2.mono (e3.trans e4)) k4 fun v H' q => hQ v H' (po_to (((e1.trans e2).trans e3).trans e4) q)
  | false =>
    rw [if_neg Bool.false_ne_true]
    rw [if_neg Bool.false_ne_true] at p3
    exact hQ _ _ ⟨_, _, Hr3, p3, (e1.trans e2).trans e3, s3, .bl false⟩
/-- and, or, not as values -/
theorem de_one {op : BoolOp} (h : DE X τ O a P) : DE X τ O (.BoolOp op [a] pos) P := ⟨fun σ Hr H Q hE hS hQ pins s I => (pe_one pe_te).run pins s σ H Q I (h σ Hr H Q hE hS hQ)⟩
theorem de_and (h : DE X τ O a (tb fun k O1 => if k = true then DE X τ O1 (.BoolOp .And (b :: rest) pos) P else P (.d (.bool false)) O1)) : DE X τ O (.BoolOp .And (a :: b :: rest) pos) P := by
  refine ⟨?_⟩
  intro σ Hr H Q hE hS hQ pins s I
  refine (pe_and pe_te pe_te).run pins s σ H Q I ?_
  refine h σ Hr H _ hE hS fun v H1 q => ?_
  obtain ⟨k, rfl, O3, Hr3, p3, e3, s3⟩ := tb_of q
  refine ⟨k, rfl, ?_⟩
  cases k with
  | true => exact DE.go p3 σ Hr3 H1 Q (hE.mono e3) s3 fun v H' q => hQ v H' (po_to e3 q)
  | false => exact hQ _ _ ⟨_, _, Hr3, p3, e3, s3, .bl false⟩
theorem de_or (h : DE X τ O a (tb fun k O1 => if k = true then P (.d (.bool true)) O1 else DE X τ O1 (.BoolOp .Or (b :: rest) pos) P)) : DE X τ O (.BoolOp .Or (a :: b :: rest) pos) P := by
  refine ⟨?_⟩
  intro σ Hr H Q hE hS hQ pins s I
  refine (pe_or pe_te pe_te).run pins s σ H Q I ?_
  refine h σ Hr H _ hE hS fun v H1 q => ?_
  obtain ⟨k, rfl, O3, Hr3, p3, e3, s3⟩ := tb_of q
  refine ⟨k, rfl, ?_⟩
  cases k with
  | false => exact DE.go p3 σ Hr3 H1 Q (hE.mono e3) s3 fun v H' q => hQ v H' (po_to e3 q)
  | true => exact hQ _ _ ⟨_, _, Hr3, p3, e3, s3, .bl true⟩
theorem de_not (h : DE X τ O a (tb fun k O1 => P (.d (.bool (!k))) O1)) : DE X τ O (.UnaryOp .Not a pos) P := by
  refine ⟨?_⟩
  intro σ Hr H Q hE hS hQ pins s I
  refine (pe_not pe_te).run pins s σ H Q I ?_
  refine h σ Hr H _ hE hS fun v H1 q => ?_
  obtain ⟨k, rfl, O3, Hr3, p3, e3, s3⟩ := tb_of q
  exact ⟨k, rfl, hQ _ _ ⟨_, _, Hr3, p3, e3, s3, .bl _⟩⟩
theorem de_ifExp (h : DT X τ O c fun k O1 => if k = true then DE X τ O1 a P else DE X τ O1 b P) : DE X τ O (.IfExp c a b pos) P := by
  refine ⟨?_⟩
  intro σ Hr H Q hE hS hQ pins s I
  refine (pe_ifExp pt_tt pe_te pe_te).run pins s σ H Q I ?_
  refine h σ Hr H _ hE hS fun k H1 ⟨O1, Hr1, p1, e1, s1⟩ => ?_
  cases k with
  | true => exact DE.go p1 σ Hr1 H1 Q (hE.mono e1) s1 fun v H' q => hQ v H' (po_to e1 q)
  | false => exact DE.go p1 σ Hr1 H1 Q (hE.mono e1) s1 fun v H' q => hQ v H' (po_to e1 q)

/-! ### tests -/
theorem dt_val (h : DE X τ O a (tb PB)) (he : ∀ whole, isTrue a X.env whole = (do let v ← whole; standAt a.pos; holding [v] (truthy v)) := by intro _; rfl) : DT X τ O a PB := by
  refine ⟨?_⟩
  intro σ Hr H Q hE hS hQ pins s I
  refine (pt_val pe_te he).run pins s σ H Q I ?_
  refine h σ Hr H _ hE hS fun v H1 q => ?_
  obtain ⟨k, rfl, q5⟩ := tb_of q
  exact ⟨k, rfl, hQ _ _ q5⟩
theorem dt_cmp {op : CmpOp} (h : DE X τ O a fun w1 O1 => DE X τ O1 b fun w2 O2 => BinD X (compareOp op) w1 w2 O2 (tb PB)) (hm : behindInMarks op b = false := by first | exact nomark _ | rfl) : DT X τ O (.Compare a [op] [b] pos) PB := by
  refine ⟨?_⟩
  intro σ Hr H Q hE hS hQ pins s I
  refine (pt_cmpR br_ok pe_te pe_te hm).run pins s σ H Q I ?_
  refine two h hE hS fun v H1 q => ?_
  obtain ⟨k, rfl, q5⟩ := tb_of q
  exact ⟨k, rfl, hQ _ _ q5⟩
theorem dt_chain {op op' : CmpOp} (h : DE X τ O a fun w1 O1 => DE X τ O1 b fun w2 O2 => BinD X (compareOp op) w1 w2 O2 (tb fun k O3 => if k = true then DE X τ O3 c fun w3 O4 => BinD X (compareOp op') w2 w3 O4 (tb PB) else PB false O3))
    (hm : lastMarks [op, op'] [b, c] = false := by with_unfolding_all rfl) : DT X τ O (.Compare a [op, op'] [b, c] pos) PB := by
  refine ⟨?_⟩
  intro σ Hr H Q hE hS hQ pins s I
  refine (pt_chain br_ok br_ok pe_te pe_te pe_te hm).run pins s σ H Q I ?_
  refine h σ Hr H _ hE hS fun x H1 ⟨w1, O1, Hr1, h1, e1, s1, k1⟩ => ?_
  refine h1 σ Hr1 H1 _ (hE.mono e1) s1 fun y H2 ⟨w2, O2, Hr2, h2, e2, s2, k2⟩ => ?_
  refine h2 x y Hr2 H2 _ s2 (k1.mono e2) k2 fun v H3 q => ?_
  obtain ⟨k, rfl, O3, Hr3, p3, e3, s3⟩ := tb_of q
  refine ⟨k, rfl, ?_⟩
  cases k with
  | true =>
    rw [if_pos rfl]
    rw [if_pos rfl] at p3
    refine p3 σ Hr3 H3 _ (hE.mono ((e1.trans e2).trans e3)) s3 fun z H4 ⟨w3, O4, Hr4, h4, e4, s4, k4⟩ => ?_
    refine h4 y z Hr4 H4 _ s4 (k2.mono (e3.trans e4)) k4 fun v H' q => ?_
    obtain ⟨k, rfl, q5⟩ := tb_of q
    exact ⟨k, rfl, hQ _ _ (to_to (((e1.trans e2).trans e3).trans e4) q5)⟩
  | false =>
    rw [if_neg Bool.false_ne_true]
    rw [if_neg Bool.false_ne_true] at p3
    exact ⟨false, rfl, hQ _ _ ⟨_, Hr3, p3, (e1.trans e2).trans e3, s3⟩⟩
/-- the truth of a value that is no bool -/
def TrD (w : W) (O : Own) (PB : Bool → Own → Prop) : Prop := match w with
  | .d .none => PB false O
  | .d (.bool k) => PB k O
  | .d (.int i) => PB (i != 0) O
  | .d (.str y) => y.length ≤ sizeLine ∧ PB ((y.length : Int) != 0) O
  | .d (.list ds) => PB (!ds.isEmpty) O
  | .d (.tuple ds) => PB (!ds.isEmpty) O
  | _ => False
theorem isEmpty_dp {K : PySem.W.Frag} {H : Hp} {vs : List V} {ds : List PyData} (h : DvAll K H vs ds) : (!vs.isEmpty) = !ds.isEmpty := by
  cases h <;> rfl
theorem dt_truth (h : DE X τ O a fun w O1 => TrD w O1 PB) (he : ∀ whole, isTrue a X.env whole = (do let v ← whole; standAt a.pos; holding [v] (truthy v)) := by intro _; rfl) : DT X τ O a PB := by
  refine ⟨?_⟩
  intro σ Hr H Q hE hS hQ pins s I
  refine (pt_truth pe_te he).run pins s σ H Q I ?_
  refine h σ Hr H _ hE hS fun v H1 ⟨w, O1, Hr1, h1, e1, s1, k1⟩ => ?_
  cases w with
  | r u => exact h1.elim
  | s x => exact h1.elim
  | d x =>
    have k2 := dv_mono s1.ex k1
    cases k2 with
    | non => exact ⟨false, rfl, hQ _ _ ⟨O1, Hr1, h1, e1, s1⟩⟩
    | bl k => exact ⟨k, rfl, hQ _ _ ⟨O1, Hr1, h1, e1, s1⟩⟩
    | int i => exact ⟨_, rfl, hQ _ _ ⟨O1, Hr1, h1, e1, s1⟩⟩
    | str y => exact ⟨_, ⟨h1.1, rfl⟩, hQ _ _ ⟨O1, Hr1, h1.2, e1, s1⟩⟩
    | lst hl ha => exact ⟨_, .inl ⟨_, SqL.of hl, rfl⟩, hQ _ _ ⟨O1, Hr1, by rw [isEmpty_dp ha]; exact h1, e1, s1⟩⟩
    | tup hl ha => exact ⟨_, .inr (.inl ⟨_, hl, rfl⟩), hQ _ _ ⟨O1, Hr1, by rw [isEmpty_dp ha]; exact h1, e1, s1⟩⟩
theorem dt_not (h : DT X τ O a fun k O1 => PB (!k) O1) : DT X τ O (.UnaryOp .Not a pos) PB := by
  refine ⟨?_⟩
  intro σ Hr H Q hE hS hQ pins s I
  refine (pt_not pt_tt).run pins s σ H Q I ?_
  exact h σ Hr H _ hE hS fun k H1 ⟨O1, Hr1, p1, e1, s1⟩ => hQ _ _ ⟨O1, Hr1, p1, e1, s1⟩
theorem dt_w (h : DWh X τ O a PB) : DT X τ O a PB := ⟨fun σ Hr H Q hE hS hQ pins s I => (pw_tw.pt).run pins s σ H Q I (h σ Hr H Q hE hS hQ)⟩
theorem dw_and1 (h : DT X τ O a PB) : DWh X τ O (.BoolOp .And [a] pos) PB := ⟨fun σ Hr H Q hE hS hQ whole pins s I => (pw_and1 pt_tt).run whole pins s σ H Q I (h σ Hr H Q hE hS hQ)⟩
theorem dw_or1 (h : DT X τ O a PB) : DWh X τ O (.BoolOp .Or [a] pos) PB := ⟨fun σ Hr H Q hE hS hQ whole pins s I => (pw_or1 pt_tt).run whole pins s σ H Q I (h σ Hr H Q hE hS hQ)⟩
theorem dw_and (h : DT X τ O a fun k O1 => if k = true then DWh X τ O1 (.BoolOp .And (b :: rest) pos) PB else PB false O1) : DWh X τ O (.BoolOp .And (a :: b :: rest) pos) PB := by
  refine ⟨?_⟩
  intro σ Hr H Q hE hS hQ whole pins s I
  refine (pw_and pt_tt pw_tw).run whole pins s σ H Q I ?_
  refine h σ Hr H _ hE hS fun k H1 ⟨O1, Hr1, p1, e1, s1⟩ => ?_
  cases k with
  | true => exact DWh.go p1 σ Hr1 H1 Q (hE.mono e1) s1 fun v H' q => hQ v H' (to_to e1 q)
  | false => exact hQ _ _ ⟨O1, Hr1, p1, e1, s1⟩
theorem dw_or (h : DT X τ O a fun k O1 => if k = true then PB true O1 else DWh X τ O1 (.BoolOp .Or (b :: rest) pos) PB) : DWh X τ O (.BoolOp .Or (a :: b :: rest) pos) PB := by
  refine ⟨?_⟩
  intro σ Hr H Q hE hS hQ whole pins s I
  refine (pw_or pt_tt pw_tw).run whole pins s σ H Q I ?_
  refine h σ Hr H _ hE hS fun k H1 ⟨O1, Hr1, p1, e1, s1⟩ => ?_
  cases k with
  | false => exact DWh.go p1 σ Hr1 H1 Q (hE.mono e1) s1 fun v H' q => hQ v H' (to_to e1 q)
  | true => exact hQ _ _ ⟨O1, Hr1, p1, e1, s1⟩

/-! ### arguments, displays -/
theorem da_nil {PA : List W → Own → Prop} (h : PA [] O) : DA X τ O [] PA := ⟨fun σ Hr H Q hE hS hQ pos pins s I => pa_nil.run pos pins s σ H Q I (hQ _ _ ⟨[], O, Hr, h, Same.refl _, hS, .nil⟩)⟩
theorem da_cons {PA : List W → Own → Prop} (h : DE X τ O a fun w O1 => DA X τ O1 es fun ws O2 => PA (w :: ws) O2) (hs : starEach (a :: es) X.env = (false, eval a X.env) :: starEach es X.env := by rfl) : DA X τ O (a :: es) PA := by
  refine ⟨?_⟩
  intro σ Hr H Q hE hS hQ pos pins s I
  refine (pa_cons pe_te pa_ta hs).run pos pins s σ H Q I ?_
  refine h σ Hr H _ hE hS fun x H1 ⟨w1, O1, Hr1, h1, e1, s1, k1⟩ => ?_
  refine h1 σ Hr1 H1 _ (hE.mono e1) s1 fun ys H2 ⟨w2, O2, Hr2, h2, e2, s2, k2⟩ => ?_
  exact hQ _ _ ⟨_, O2, Hr2, h2, e1.trans e2, s2, .cons (k1.mono e2) k2⟩
/-- all of a list of what is known are data -/
def allD : List W → Option (List PyData)
  | [] => some []
  | .d x :: ws => match allD ws with
    | some r => some (x :: r)
    | none => none
  | .r _ :: _ => none
  | .s _ :: _ => none
theorem allD_ok {K : PySem.W.Frag} {Hr : Hp} : ∀ {ws : List W} {vs : List V} {ds : List PyData}, allD ws = some ds → WOks K Hr vs ws → DvAll K Hr vs ds
  | [], _, _, h, k => by cases h; cases k; exact .nil
  | .d x :: ws, _, ds, h, k => by
    cases k with
    | cons a b =>
      cases e : allD ws with
      | none =>
        simp only [allD, e] at h
        cases h
      | some es =>
        simp only [allD, e] at h
        cases h
        exact .cons a (allD_ok e b)
  | .r _ :: _, _, _, h, _ => by cases h
  | .s _ :: _, _, _, h, _ => by cases h
theorem de_tup {x1} (h : DA X τ O es fun ws O1 => ∃ ds, allD ws = some ds ∧ ds.length ≤ sizeLine ∧ P (.d (.tuple ds)) O1) : DE X τ O (.Tuple es x1 pos) P := by
  refine ⟨?_⟩
  intro σ Hr H Q hE hS hQ pins s I
  refine (pe_tup pa_ta).run pins s σ H Q I ?_
  refine h σ Hr H _ hE hS fun ys H2 ⟨ws, O2, Hr2, ⟨ds, h1, h2, h3⟩, e2, s2, k2⟩ => ?_
  have hd := allD_ok h1 k2
  refine ⟨by rw [hd.len]; exact h2, fun p hp => hQ _ _ (po_to e2 (po_new h3 s2 hp (.tup (SqT.of upd_same) (dvAll_mono (same_new (s2.fresh hp).1) hd))))⟩
theorem de_lst (h : DA X τ O es fun ws O1 => ∃ ds, allD ws = some ds ∧ ds.length ≤ sizeLine ∧ P (.d (.list ds)) O1) : DE X τ O (.List es pos) P := by
  refine ⟨?_⟩
  intro σ Hr H Q hE hS hQ pins s I
  refine (pe_lst pa_ta).run pins s σ H Q I ?_
  refine h σ Hr H _ hE hS fun ys H2 ⟨ws, O2, Hr2, ⟨ds, h1, h2, h3⟩, e2, s2, k2⟩ => ?_
  have hd := allD_ok h1 k2
  refine ⟨by rw [hd.len]; exact h2, fun p hp => hQ _ _ (po_to e2 (po_new h3 s2 hp (.lst upd_same (dvAll_mono (same_new (s2.fresh hp).1) hd))))⟩
/-- a list that is owned, to be written later -/
theorem de_lstO (h : DA X τ O es fun ws O1 => ∃ ds, allD ws = some ds ∧ ds.length ≤ sizeLine ∧ ∀ p, P (.r (.ref p)) ((p, .l ds) :: O1)) : DE X τ O (.List es pos) P := by
  refine ⟨?_⟩
  intro σ Hr H Q hE hS hQ pins s I
  refine (pe_lst pa_ta).run pins s σ H Q I ?_
  refine h σ Hr H _ hE hS fun ys H2 ⟨ws, O2, Hr2, ⟨ds, h1, h2, h3⟩, e2, s2, k2⟩ => ?_
  have hd := allD_ok h1 k2
  refine ⟨by rw [hd.len]; exact h2, fun p hp => hQ _ _ ⟨_, _, Hr2, h3 p, e2, s2.newOwn hp ⟨ys, upd_same, hd⟩, rfl⟩⟩

/-! ### calls of built-in functions and types, methods -/
theorem de_callB (id : String) {x : Str} {p : Pos} {e : Expr} (hm : X.mg x = none) (hv : bootBuiltins x = some (.builtin id)) (h : DA X τ O (e :: es) fun ws O1 => CallD X (.builtin id) ws O1 P) (hg : Gl X x := by rfl) (hn : x ≠ "__name__" := by decide)
    (hdb : (x == ("__debug__" : Str)) = false := by decide) (he : starEach (e :: es) X.env = (false, eval e X.env) :: starEach es X.env := by rfl) (hpl : (backTo pos (starEach es X.env)).any (·.1) = false := by rfl) : DE X τ O (.Call (.Name x p) (e :: es) [] pos) P := ⟨fun σ Hr H Q hE hS hQ pins s I => (pe_callB cr_ok hg hm hv pa_ta hn hdb he hpl).run pins s σ H Q I
    (h σ Hr H _ hE hS fun ys H2 ⟨ws, O2, Hr2, h1, e2, s2, k2⟩ => h1 ys Hr2 H2 Q s2 k2 fun v H' q => hQ v H' (po_to e2 q))⟩
theorem de_callTy (T : String) {x : Str} {p : Pos} {e : Expr} (hm : X.mg x = none) (hv : bootBuiltins x = some (.type T)) (h : DA X τ O (e :: es) fun ws O1 => CallD X (.type T) ws O1 P) (hg : Gl X x := by rfl) (hn : x ≠ "__name__" := by decide)
    (hdb : (x == ("__debug__" : Str)) = false := by decide) (he : starEach (e :: es) X.env = (false, eval e X.env) :: starEach es X.env := by rfl) (hpl : (backTo pos (starEach es X.env)).any (·.1) = false := by rfl) : DE X τ O (.Call (.Name x p) (e :: es) [] pos) P := ⟨fun σ Hr H Q hE hS hQ pins s I => (pe_callTy cr_ok hg hm hv pa_ta hn hdb he hpl).run pins s σ H Q I
    (h σ Hr H _ hE hS fun ys H2 ⟨ws, O2, Hr2, h1, e2, s2, k2⟩ => h1 ys Hr2 H2 Q s2 k2 fun v H' q => hQ v H' (po_to e2 q))⟩
theorem de_ix (h : DE X τ O a fun w1 O1 => DE X τ O1 b fun w2 O2 => IxD X w1 w2 O2 P) (hs : PlainIx b := by exact fun _ _ => rfl) : DE X τ O (.Subscript a b pos) P := by
  refine ⟨?_⟩
  intro σ Hr H Q hE hS hQ pins s I
  refine (pe_ix (r := fun x y H Q => ∀ (value slice : Expr) (pins : List (Addr × Obj)) (s : Shared) (σ : L2.St) (v u : Value), Inv X pins σ H s → RelV x v → RelV y u → subscripted slice false v u = operate [v, u] (getItem v u) →
      wpAny (model X.prog X.w) X.A (subscriptTail value slice v u) (EP X pins σ Q) X.xe s) (fun value slice pins s σ H x y v u Q I r1 r2 h hs => h value slice pins s σ v u I r1 r2 hs) pe_te pe_te hs).run pins s σ H Q I ?_
  refine h σ Hr H _ hE hS fun x H1 ⟨w1, O1, Hr1, h1, e1, s1, k1⟩ => ?_
  refine h1 σ Hr1 H1 _ (hE.mono e1) s1 fun y H2 ⟨w2, O2, Hr2, h2, e2, s2, k2⟩ => ?_
  intro value slice pins s σ v u I r1 r2 hs
  exact h2 value slice x y Hr2 H2 Q s2 (k1.mono e2) k2 (fun v H' q => hQ v H' (po_to (e1.trans e2) q)) pins s σ v u I r1 r2 hs
end
end DL

set_option Elab.async false
set_option linter.all false
set_option maxRecDepth 100000
set_option maxHeartbeats 2000000
namespace DL
open PySem PySem.Spec PyProof.Rows L2

section
variable {X : Cx} {O : Own} {P : W → Own → Prop} {w w1 w2 : W}
theorem bind_of {f : Value → Value → Sem Value} {r : R2} (ho : OpR X f r)
    (k : ∀ (v1 v2 : V) (Hr H : Hp) (Q : VK), Sep X.K Hr O H → WOk X.K Hr v1 w1 → WOk X.K Hr v2 w2 → (∀ v H', PO X.K Hr P v H' → Q v H') → r v1 v2 H Q) : BinD X f w1 w2 O P := ⟨fun v1 v2 Hr H Q hS h1 h2 hQ pins s σ v u I r1 r2 => ho pins s σ H v1 v2 v u Q I r1 r2 (k v1 v2 Hr H Q hS h1 h2 hQ)⟩
theorem und_of {f : Value → Sem Value} {r : V → Hp → VK → Prop} (ho : UnR X f r)
    (k : ∀ (v1 : V) (Hr H : Hp) (Q : VK), Sep X.K Hr O H → WOk X.K Hr v1 w → (∀ v H', PO X.K Hr P v H' → Q v H') → r v1 H Q) : UnD X f w O P := ⟨fun v1 Hr H Q hS h1 hQ pins s σ v I r1 => ho pins s σ H v1 v Q I r1 (k v1 Hr H Q hS h1 hQ)⟩
theorem calld_of {f : Value} {ws : List W} {r : List V → Hp → VK → Prop} (ho : CallR X f r)
    (k : ∀ (vs : List V) (Hr H : Hp) (Q : VK), Sep X.K Hr O H → WOks X.K Hr vs ws → (∀ v H', PO X.K Hr P v H' → Q v H') → r vs H Q) : CallD X f ws O P := ⟨fun vs Hr H Q hS h1 hQ pins s σ us I r1 => ho pins s σ H vs us Q I r1 (k vs Hr H Q hS h1 hQ)⟩
theorem metd_of {T id : String} {ws : List W} {r : V → List V → Hp → VK → Prop} (ho : MtR X id r)
    (k : ∀ (v : V) (vs : List V) (Hr H : Hp) (Q : VK), Sep X.K Hr O H → WOk X.K Hr v w → WOks X.K Hr vs ws → (∀ v H', PO X.K Hr P v H' → Q v H') → r v vs H Q) : MetD X T id w ws O P := ⟨fun v vs Hr H Q hS h0 h1 hQ pins s σ u us I r0 r1 => ho pins s σ H v vs u us Q I r0 r1 (k v vs Hr H Q hS h0 h1 hQ)⟩
theorem ixd_of {r : R2} (ho : IxR X r)
    (k : ∀ (v1 v2 : V) (Hr H : Hp) (Q : VK), Sep X.K Hr O H → WOk X.K Hr v1 w1 → WOk X.K Hr v2 w2 → (∀ v H', PO X.K Hr P v H' → Q v H') → r v1 v2 H Q) : IxD X w1 w2 O P := ⟨fun value slice v1 v2 Hr H Q hS h1 h2 hQ pins s σ v u I r1 r2 hs => ho value slice pins s σ H v1 v2 v u Q I r1 r2 (k v1 v2 Hr H Q hS h1 h2 hQ) hs⟩
/-! ### ints -/
theorem b_I0 {f : Value → Value → Sem Value} {g : Int → Int → V} {d : PyData} {i j : Int} (ho : OpR X f (rI0 g)) (hd : ∀ Hr, Dv X.K Hr (g i j) d) (h : P (.d d) O) : BinD X f (.d (.int i)) (.d (.int j)) O P :=
  bind_of ho fun v1 v2 Hr H Q hS h1 h2 hQ => by
    cases h1
    cases h2
    exact ⟨i, j, rfl, rfl, hQ _ _ (po_here h hS (hd Hr))⟩
theorem b_I {f : Value → Value → Sem Value} {C : Int → Int → Prop} {g : Int → Int → V} {d : PyData} {i j : Int} (ho : OpR X f (rI C g)) (hc : C i j) (hd : ∀ Hr, Dv X.K Hr (g i j) d) (h : P (.d d) O) : BinD X f (.d (.int i)) (.d (.int j)) O P :=
  bind_of ho fun v1 v2 Hr H Q hS h1 h2 hQ => by
    cases h1
    cases h2
    exact ⟨i, j, rfl, rfl, hc, hQ _ _ (po_here h hS (hd Hr))⟩
theorem b_add {i j : Int} (h : P (.d (.int (i + j))) O) : BinD X (binaryOp .Add) (.d (.int i)) (.d (.int j)) O P := b_I0 op_add (fun _ => .int _) h
theorem b_sub {i j : Int} (h : P (.d (.int (i - j))) O) : BinD X (binaryOp .Sub) (.d (.int i)) (.d (.int j)) O P := b_I0 op_sub (fun _ => .int _) h
theorem cmul_r {i j : Int} (h : j.natAbs < 18446744073709551616) : CMul i j := Or.inr ⟨by omega, by omega⟩
theorem cmul_l {i j : Int} (h : i.natAbs < 18446744073709551616) : CMul i j := Or.inl ⟨by omega, by omega⟩
theorem b_mul {i j : Int} (hc : CMul i j) (h : P (.d (.int (i * j))) O) : BinD X (binaryOp .Mult) (.d (.int i)) (.d (.int j)) O P := b_I op_mul hc (fun _ => .int _) h
theorem cdivw {i j : Int} (h : 0 < j) (hj : j.natAbs < 2 ^ 8000) : CDivW i j := wide_div h hj (by decide) (by decide)
theorem b_fdiv {i j : Int} (hc : CDivW i j) (h : P (.d (.int (i / j))) O) : BinD X (binaryOp .FloorDiv) (.d (.int i)) (.d (.int j)) O P := b_I op_fdivW hc (fun _ => .int _) h
theorem b_mod {i j : Int} (hc : 0 < j) (h : P (.d (.int (i % j))) O) : BinD X (binaryOp .Mod) (.d (.int i)) (.d (.int j)) O P := b_I op_mod hc (fun _ => .int _) h
theorem b_pow {i j : Int} (hc : CPow i j) (h : P (.d (.int (i ^ j.toNat))) O) : BinD X (binaryOp .Pow) (.d (.int i)) (.d (.int j)) O P := b_I op_pow hc (fun _ => .int _) h
theorem u_neg {i : Int} (h : P (.d (.int (-i))) O) : UnD X (unaryOp .USub) (.d (.int i)) O P := und_of un_neg fun v Hr H Q hS h1 hQ => by
  cases h1
  exact ⟨i, rfl, hQ _ _ (po_here h hS (.int _))⟩
theorem b_lt {i j : Int} (h : P (.d (.bool (decide (i < j)))) O) : BinD X (compareOp .Lt) (.d (.int i)) (.d (.int j)) O P := b_I0 op_lt (fun _ => .bl _) h
theorem b_le {i j : Int} (h : P (.d (.bool (decide (i ≤ j)))) O) : BinD X (compareOp .LtE) (.d (.int i)) (.d (.int j)) O P := b_I0 op_le (fun _ => .bl _) h
theorem b_gt {i j : Int} (h : P (.d (.bool (decide (j < i)))) O) : BinD X (compareOp .Gt) (.d (.int i)) (.d (.int j)) O P := b_I0 op_gt (fun _ => .bl _) h
theorem b_ge {i j : Int} (h : P (.d (.bool (decide (j ≤ i)))) O) : BinD X (compareOp .GtE) (.d (.int i)) (.d (.int j)) O P := b_I0 op_ge (fun _ => .bl _) h

/-! ### == and in -/
/-- an owned list, or data: what is read -/
def RdW (w : W) (O : Own) (d : PyData) : Prop := w = .d d ∨ w = .s d ∨ ∃ (p : Addr) (j : Nat) (ds : List PyData), w = .r (.ref p) ∧ O[j]? = some (p, Cell.l ds) ∧ d = .list ds
theorem RdW.dp {K : PySem.W.Frag} {Hr H : Hp} {v : V} {d : PyData} (r : RdW w O d) (S : Sep K Hr O H) (k : WOk K Hr v w) : Dp K H v d := by
  rcases r with rfl | rfl | ⟨p, j, ds, rfl, hj, rfl⟩
  · exact (dv_mono S.ex k).dp
  · exact dp_mono S.ex k
  · cases k
    obtain ⟨vs, h1, h2⟩ := S.cell hj
    exact .lst (SqL.of h1) (dvAll_mono S.ex h2).dp
/-- .. a list that is tracked -/
def RdL (w : W) (O : Own) (ds : List PyData) : Prop := w = .d (.list ds) ∨ ∃ (p : Addr) (j : Nat), w = .r (.ref p) ∧ O[j]? = some (p, Cell.l ds)
theorem RdL.at {K : PySem.W.Frag} {Hr H : Hp} {v : V} {ds : List PyData} (r : RdL w O ds) (S : Sep K Hr O H) (k : WOk K Hr v w) : ∃ p vs, v = .ref p ∧ H p = some (.lst vs) ∧ DvAll K Hr vs ds := by
  rcases r with rfl | ⟨p, j, rfl, hj⟩
  · cases k with
    | lst h a => exact ⟨_, _, rfl, S.ex _ _ h, a⟩
  · cases k
    obtain ⟨vs, h1, h2⟩ := S.cell hj
    exact ⟨_, _, rfl, h1, h2⟩
theorem rdl {ds : List PyData} : RdL (.d (.list ds)) O ds := .inl rfl
theorem rdlo {p : Addr} (j : Nat) {ds : List PyData} (h : O[j]? = some (p, .l ds)) : RdL (.r (.ref p)) O ds := .inr ⟨p, j, rfl, h⟩
theorem rdw {d : PyData} : RdW (.d d) O d := .inl rfl
theorem rds {d : PyData} : RdW (.s d) O d := .inr (.inl rfl)
theorem rdo {p : Addr} (j : Nat) {ds : List PyData} (h : O[j]? = some (p, .l ds)) : RdW (.r (.ref p)) O (.list ds) := .inr (.inr ⟨p, j, ds, rfl, h, rfl⟩)
theorem b_eqR {d e : PyData} (hu : X.A.units + 64 < cLine) (r1 : RdW w1 O d) (r2 : RdW w2 O e) (hd : SeqAt.shaped d = true) (he : SeqAt.shaped e = true) (h : P (.d (.bool (PyData.eqv d e))) O) : BinD X (compareOp .Eq) w1 w2 O P :=
  bind_of (op_eqD hu) fun v1 v2 Hr H Q hS h1 h2 hQ => ⟨d, e, r1.dp hS h1, r2.dp hS h2, hd, he, hQ _ _ (po_here h hS (.bl _))⟩
theorem b_neR {d e : PyData} (hu : X.A.units + 64 < cLine) (r1 : RdW w1 O d) (r2 : RdW w2 O e) (hd : SeqAt.shaped d = true) (he : SeqAt.shaped e = true) (h : P (.d (.bool (!PyData.eqv d e))) O) : BinD X (compareOp .NotEq) w1 w2 O P :=
  bind_of (op_neD hu) fun v1 v2 Hr H Q hS h1 h2 hQ => ⟨d, e, r1.dp hS h1, r2.dp hS h2, hd, he, hQ _ _ (po_here h hS (.bl _))⟩
theorem b_eq {d e : PyData} (hu : X.A.units + 64 < cLine) (hd : SeqAt.shaped d = true) (he : SeqAt.shaped e = true) (h : P (.d (.bool (PyData.eqv d e))) O) : BinD X (compareOp .Eq) (.d d) (.d e) O P := b_eqR hu rdw rdw hd he h
theorem b_ne {d e : PyData} (hu : X.A.units + 64 < cLine) (hd : SeqAt.shaped d = true) (he : SeqAt.shaped e = true) (h : P (.d (.bool (!PyData.eqv d e))) O) : BinD X (compareOp .NotEq) (.d d) (.d e) O P := b_neR hu rdw rdw hd he h
/-- scalars: no size asked -/
def scD : PyData → Bool
  | .none | .bool _ | .int _ | .str _ => true
  | _ => false
theorem b_eqI {i j : Int} (h : P (.d (.bool (decide (i = j)))) O) : BinD X (compareOp .Eq) (.d (.int i)) (.d (.int j)) O P :=
  bind_of op_eq fun v1 v2 Hr H Q hS h1 h2 hQ => by
    cases h1
    cases h2
    refine ⟨rfl, hQ _ _ (po_here (w := .d (.bool (decide (i = j)))) h hS ?_)⟩
    have e : decide (V.int i = V.int j) = decide (i = j) := by simp
    rw [e]
    exact .bl _
theorem b_neI {i j : Int} (h : P (.d (.bool (!decide (i = j)))) O) : BinD X (compareOp .NotEq) (.d (.int i)) (.d (.int j)) O P :=
  bind_of op_ne fun v1 v2 Hr H Q hS h1 h2 hQ => by
    cases h1
    cases h2
    refine ⟨rfl, hQ _ _ (po_here (w := .d (.bool (!decide (i = j)))) h hS ?_)⟩
    have e : decide (V.int i = V.int j) = decide (i = j) := by simp
    rw [e]
    exact .bl _
theorem b_eqS {i j : Str} (h : P (.d (.bool (decide (i = j)))) O) : BinD X (compareOp .Eq) (.d (.str i)) (.d (.str j)) O P :=
  bind_of op_eq fun v1 v2 Hr H Q hS h1 h2 hQ => by
    cases h1
    cases h2
    refine ⟨rfl, hQ _ _ (po_here (w := .d (.bool (decide (i = j)))) h hS ?_)⟩
    have e : decide (V.str i = V.str j) = decide (i = j) := by simp
    rw [e]
    exact .bl _
theorem b_neS {i j : Str} (h : P (.d (.bool (!decide (i = j)))) O) : BinD X (compareOp .NotEq) (.d (.str i)) (.d (.str j)) O P :=
  bind_of op_ne fun v1 v2 Hr H Q hS h1 h2 hQ => by
    cases h1
    cases h2
    refine ⟨rfl, hQ _ _ (po_here (w := .d (.bool (!decide (i = j)))) h hS ?_)⟩
    have e : decide (V.str i = V.str j) = decide (i = j) := by simp
    rw [e]
    exact .bl _
theorem b_eqB {i j : Bool} (h : P (.d (.bool (decide (i = j)))) O) : BinD X (compareOp .Eq) (.d (.bool i)) (.d (.bool j)) O P :=
  bind_of op_eq fun v1 v2 Hr H Q hS h1 h2 hQ => by
    cases h1
    cases h2
    refine ⟨rfl, hQ _ _ (po_here (w := .d (.bool (decide (i = j)))) h hS ?_)⟩
    have e : decide (V.bl i = V.bl j) = decide (i = j) := by simp
    rw [e]
    exact .bl _
theorem b_neB {i j : Bool} (h : P (.d (.bool (!decide (i = j)))) O) : BinD X (compareOp .NotEq) (.d (.bool i)) (.d (.bool j)) O P :=
  bind_of op_ne fun v1 v2 Hr H Q hS h1 h2 hQ => by
    cases h1
    cases h2
    refine ⟨rfl, hQ _ _ (po_here (w := .d (.bool (!decide (i = j)))) h hS ?_)⟩
    have e : decide (V.bl i = V.bl j) = decide (i = j) := by simp
    rw [e]
    exact .bl _
/-- is None -/
def isNone : PyData → Bool
  | .none => true
  | _ => false
theorem dp_isNone {K : PySem.W.Frag} {H : Hp} {v : V} {d : PyData} (h : Dv K H v d) : decide (v = .non) = isNone d := by
  cases h <;> simp [isNone]
theorem b_isN {d : PyData} (h : P (.d (.bool (isNone d))) O) : BinD X (compareOp .Is) (.d d) (.d .none) O P :=
  bind_of op_isN fun v1 v2 Hr H Q hS h1 h2 hQ => by
    cases h2
    refine ⟨rfl, hQ _ _ (po_here h hS ?_)⟩
    rw [dp_isNone h1]
    exact .bl _
theorem b_isNn {d : PyData} (h : P (.d (.bool (!isNone d))) O) : BinD X (compareOp .IsNot) (.d d) (.d .none) O P :=
  bind_of op_notN fun v1 v2 Hr H Q hS h1 h2 hQ => by
    cases h2
    refine ⟨rfl, hQ _ _ (po_here h hS ?_)⟩
    rw [dp_isNone h1]
    exact .bl _
/-- x in xs, xs a list of data of any depth -/
theorem b_inL {d : PyData} {ds : List PyData} (hu : X.A.units + 65 < cLine) (r1 : RdW w1 O d) (r2 : RdW w2 O (.list ds)) (hd : SeqAt.shaped d = true) (he : SeqAt.shaped (.list ds) = true) (h : P (.d (.bool (ds.any fun z => PyData.eqv z d))) O) : BinD X (compareOp .In) w1 w2 O P :=
  bind_of (op_inD hu) fun v1 v2 Hr H Q hS h1 h2 hQ => ⟨d, ds, r1.dp hS h1, r2.dp hS h2, hd, he, hQ _ _ (po_here h hS (.bl _))⟩
theorem b_niL {d : PyData} {ds : List PyData} (hu : X.A.units + 65 < cLine) (r1 : RdW w1 O d) (r2 : RdW w2 O (.list ds)) (hd : SeqAt.shaped d = true) (he : SeqAt.shaped (.list ds) = true) (h : P (.d (.bool (!ds.any fun z => PyData.eqv z d))) O) : BinD X (compareOp .NotIn) w1 w2 O P :=
  bind_of (op_notInD hu) fun v1 v2 Hr H Q hS h1 h2 hQ => ⟨d, ds, r1.dp hS h1, r2.dp hS h2, hd, he, hQ _ _ (po_here h hS (.bl _))⟩
/-- x in xs, flat items, a list or a tuple -/
def flD : PyData → Bool
  | .none | .bool _ | .int _ | .str _ => true
  | _ => false
theorem flat_dp {K : PySem.W.Frag} {H : Hp} {v : V} {d : PyData} (h : Dv K H v d) (f : flD d = true) : flatV v = true := by
  cases h <;> first | rfl | cases f
theorem flatAll_dp {K : PySem.W.Frag} {H : Hp} : ∀ {vs : List V} {ds : List PyData}, DvAll K H vs ds → ds.all flD = true → vs.all flatV = true
  | _, _, .nil, _ => rfl
  | _, _, .cons a b, h => by
    rw [List.all_cons, Bool.and_eq_true] at h ⊢
    exact ⟨flat_dp a h.1, flatAll_dp b h.2⟩
theorem eqV_dp {K : PySem.W.Frag} {H : Hp} {v u : V} {d e : PyData} (h : Dv K H v d) (g : Dv K H u e) (f : flD d = true) (f2 : flD e = true) : eqV v u = PyData.eqv d e := by
  cases h <;> cases g <;> first | rfl | (cases f; done) | (cases f2; done)
theorem inV_dp {K : PySem.W.Frag} {H : Hp} {u : V} {e : PyData} (g : Dv K H u e) (f2 : flD e = true) : ∀ {vs : List V} {ds : List PyData}, DvAll K H vs ds → ds.all flD = true → inV u vs = ds.any fun z => PyData.eqv z e
  | _, _, .nil, _ => rfl
  | _, _, .cons a b, h => by
    rw [List.all_cons, Bool.and_eq_true] at h
    have ih := inV_dp g f2 b h.2
    unfold inV at ih ⊢
    rw [List.any_cons, List.any_cons, ih, eqV_dp a g h.1 f2]
theorem b_inT {d : PyData} {ds : List PyData} (hd : flD d = true) (he : ds.all flD = true) (h : P (.d (.bool (ds.any fun z => PyData.eqv z d))) O) : BinD X (compareOp .In) (.d d) (.d (.tuple ds)) O P :=
  bind_of op_in_seq fun v1 v2 Hr H Q hS h1 h2 hQ => by
    cases h2 with
    | tup hl ha =>
      refine ⟨_, _, rfl, .inr (same_t hS.ex hl), flat_dp h1 hd, flatAll_dp ha he, hQ _ _ (po_here h hS ?_)⟩
      rw [if_neg Bool.false_ne_true, inV_dp h1 hd ha he]
      exact .bl _
theorem b_niT {d : PyData} {ds : List PyData} (hd : flD d = true) (he : ds.all flD = true) (h : P (.d (.bool (!ds.any fun z => PyData.eqv z d))) O) : BinD X (compareOp .NotIn) (.d d) (.d (.tuple ds)) O P :=
  bind_of op_notIn_seq fun v1 v2 Hr H Q hS h1 h2 hQ => by
    cases h2 with
    | tup hl ha =>
      refine ⟨_, _, rfl, .inr (same_t hS.ex hl), flat_dp h1 hd, flatAll_dp ha he, hQ _ _ (po_here h hS ?_)⟩
      rw [if_pos rfl, inV_dp h1 hd ha he]
      exact .bl _
theorem b_inF {d : PyData} {ds : List PyData} (hd : flD d = true) (he : ds.all flD = true) (h : P (.d (.bool (ds.any fun z => PyData.eqv z d))) O) : BinD X (compareOp .In) (.d d) (.d (.list ds)) O P :=
  bind_of op_in_seq fun v1 v2 Hr H Q hS h1 h2 hQ => by
    cases h2 with
    | lst hl ha =>
      refine ⟨_, _, rfl, .inl (SqL.of (hS.ex _ _ hl)), flat_dp h1 hd, flatAll_dp ha he, hQ _ _ (po_here h hS ?_)⟩
      rw [if_neg Bool.false_ne_true, inV_dp h1 hd ha he]
      exact .bl _
theorem b_niF {d : PyData} {ds : List PyData} (hd : flD d = true) (he : ds.all flD = true) (h : P (.d (.bool (!ds.any fun z => PyData.eqv z d))) O) : BinD X (compareOp .NotIn) (.d d) (.d (.list ds)) O P :=
  bind_of op_notIn_seq fun v1 v2 Hr H Q hS h1 h2 hQ => by
    cases h2 with
    | lst hl ha =>
      refine ⟨_, _, rfl, .inl (SqL.of (hS.ex _ _ hl)), flat_dp h1 hd, flatAll_dp ha he, hQ _ _ (po_here h hS ?_)⟩
      rw [if_pos rfl, inV_dp h1 hd ha he]
      exact .bl _
/-- one sign in a text -/
theorem b_inS {c : Nat} {z : Str} (h : P (.d (.bool (decide (c ∈ z.cps.toList)))) O) : BinD X (compareOp .In) (.d (.str ⟨#[c]⟩)) (.d (.str z)) O P :=
  bind_of op_in_sign fun v1 v2 Hr H Q hS h1 h2 hQ => by
    cases h1
    cases h2
    exact ⟨c, z, rfl, rfl, hQ _ _ (po_here h hS (.bl _))⟩
theorem b_niS {c : Nat} {z : Str} (h : P (.d (.bool (!decide (c ∈ z.cps.toList)))) O) : BinD X (compareOp .NotIn) (.d (.str ⟨#[c]⟩)) (.d (.str z)) O P :=
  bind_of op_notIn_sign fun v1 v2 Hr H Q hS h1 h2 hQ => by
    cases h1
    cases h2
    exact ⟨c, z, rfl, rfl, hQ _ _ (po_here h hS (.bl _))⟩

/-! ### texts, tuples, lists together -/
theorem b_addS {x y : Str} (hl : x.length + y.length ≤ sizeLine) (h : P (.d (.str (x ++ y))) O) : BinD X (binaryOp .Add) (.d (.str x)) (.d (.str y)) O P :=
  bind_of op_add_str fun v1 v2 Hr H Q hS h1 h2 hQ => by
    cases h1
    cases h2
    exact ⟨x, y, rfl, rfl, hl, hQ _ _ (po_here h hS (.str _))⟩
theorem b_addT {ds es : List PyData} (hl : ds.length + es.length ≤ sizeLine) (h : P (.d (.tuple (ds ++ es))) O) : BinD X (binaryOp .Add) (.d (.tuple ds)) (.d (.tuple es)) O P :=
  bind_of op_catA fun v1 v2 Hr H Q hS h1 h2 hQ => by
    cases h1 with
    | tup k1 a1 =>
      cases h2 with
      | tup k2 a2 =>
        refine ⟨_, _, _, _, rfl, rfl, same_t hS.ex k1, same_t hS.ex k2, by rw [a1.len, a2.len]; exact hl, fun e => ?_, fun e e2 => ?_, fun e e2 p hp => ?_⟩
        · have q := a1.nil_iff.mp e
          subst q
          exact hQ _ _ (po_here h hS (.tup k2 a2))
        · have q := a2.nil_iff.mp e2
          subst q
          rw [List.append_nil] at h
          exact hQ _ _ (po_here h hS (.tup k1 a1))
        · exact hQ _ _ (po_new h hS hp (.tup (SqT.of upd_same) (dvAll_mono (same_new (hS.fresh hp).1) (a1.app a2))))
theorem b_addL {ds es : List PyData} (r1 : RdL w1 O ds) (r2 : RdL w2 O es) (hl : ds.length + es.length ≤ sizeLine) (h : P (.d (.list (ds ++ es))) O) : BinD X (binaryOp .Add) w1 w2 O P :=
  bind_of op_cat fun v1 v2 Hr H Q hS h1 h2 hQ => by
    obtain ⟨p, vs, rfl, e1, a1⟩ := r1.at hS h1
    obtain ⟨q, us, rfl, e2, a2⟩ := r2.at hS h2
    exact ⟨_, _, _, _, rfl, rfl, e1, e2, by rw [a1.len, a2.len]; exact hl, fun p hp => hQ _ _ (po_new h hS hp (.lst upd_same (dvAll_mono (same_new (hS.fresh hp).1) (a1.app a2))))⟩
/-- .. owned -/
theorem b_addLO {ds es : List PyData} (r1 : RdL w1 O ds) (r2 : RdL w2 O es) (hl : ds.length + es.length ≤ sizeLine) (h : ∀ p, P (.r (.ref p)) ((p, .l (ds ++ es)) :: O)) : BinD X (binaryOp .Add) w1 w2 O P :=
  bind_of op_cat fun v1 v2 Hr H Q hS h1 h2 hQ => by
    obtain ⟨p, vs, rfl, e1, a1⟩ := r1.at hS h1
    obtain ⟨q, us, rfl, e2, a2⟩ := r2.at hS h2
    exact ⟨_, _, _, _, rfl, rfl, e1, e2, by rw [a1.len, a2.len]; exact hl, fun p hp => hQ _ _ ⟨_, _, Hr, h p, Same.refl _, hS.newOwn hp ⟨_, upd_same, a1.app a2⟩, rfl⟩⟩
theorem DvAll_rep {K : PySem.W.Frag} {H : Hp} {vs : List V} {ds : List PyData} (h : DvAll K H vs ds) : ∀ n : Nat, DvAll K H (List.replicate n vs).flatten (List.replicate n ds).flatten
  | 0 => .nil
  | n + 1 => by
    rw [List.replicate_succ, List.replicate_succ, List.flatten_cons, List.flatten_cons]
    exact h.app (DvAll_rep h n)
theorem b_repL {ds : List PyData} {k : Int} (r1 : RdL w1 O ds) (h1 : -(2 ^ 63) ≤ k) (h2 : k < 2 ^ 63) (hl : ds.length * k.toNat ≤ sizeLine) (h : P (.d (.list (List.replicate k.toNat ds).flatten)) O) : BinD X (binaryOp .Mult) w1 (.d (.int k)) O P :=
  bind_of op_rep fun v1 v2 Hr H Q hS k1 k2 hQ => by
    obtain ⟨p, vs, rfl, e1, a1⟩ := r1.at hS k1
    cases k2
    exact ⟨_, _, _, rfl, rfl, e1, h1, h2, by rw [a1.len]; exact hl, fun p hp => hQ _ _ (po_new h hS hp (.lst upd_same (dvAll_mono (same_new (hS.fresh hp).1) (DvAll_rep a1 _))))⟩
theorem b_repT {ds : List PyData} {k : Int} (hne : ds ≠ []) (h1 : 2 ≤ k) (h2 : k ≤ 1000) (hl : ds.length ≤ 1000) (h : P (.d (.tuple (List.replicate k.toNat ds).flatten)) O) : BinD X (binaryOp .Mult) (.d (.tuple ds)) (.d (.int k)) O P :=
  bind_of op_repT fun v1 v2 Hr H Q hS k1 k2 hQ => by
    cases k2
    cases k1 with
    | tup e1 a1 => exact ⟨_, _, _, rfl, rfl, same_t hS.ex e1, fun q => hne (a1.nil_iff.mp q), h1, h2, by rw [a1.len]; exact hl, fun p hp => hQ _ _ (po_new h hS hp (.tup (SqT.of upd_same) (dvAll_mono (same_new (hS.fresh hp).1) (DvAll_rep a1 _))))⟩

/-! ### an item -/
theorem atI_dv {K : PySem.W.Frag} {H : Hp} {vs : List V} {ds : List PyData} (h : DvAll K H vs ds) {i : Int} {d : PyData} (g : atI ds i = some d) : ∃ v, atI vs i = some v ∧ Dv K H v d := by
  unfold atI at g ⊢
  rw [← h.len] at g
  cases e : ixN vs.length i with
  | none =>
    rw [e] at g
    cases g
  | some j =>
    rw [e] at g
    exact h.get (i := j) g
theorem ix_l {ds : List PyData} {i : Int} {d : PyData} (r : RdL w1 O ds) (g : atI ds i = some d) (h : P (.d d) O) : IxD X w1 (.d (.int i)) O P :=
  ixd_of ix_list fun v1 v2 Hr H Q hS h1 h2 hQ => by
    obtain ⟨p, vs, rfl, e1, a1⟩ := r.at hS h1
    cases h2
    obtain ⟨v, gv, dv⟩ := atI_dv a1 g
    exact ⟨_, _, _, v, rfl, rfl, SqL.of e1, gv, hQ _ _ (po_here h hS dv)⟩
theorem ix_t {ds : List PyData} {i : Int} {d : PyData} (g : atI ds i = some d) (h : P (.d d) O) : IxD X (.d (.tuple ds)) (.d (.int i)) O P :=
  ixd_of ix_tup fun v1 v2 Hr H Q hS h1 h2 hQ => by
    cases h2
    cases h1 with
    | tup e1 a1 =>
      obtain ⟨v, gv, dv⟩ := atI_dv a1 g
      exact ⟨_, _, _, v, rfl, rfl, same_t hS.ex e1, gv, hQ _ _ (po_here h hS dv)⟩
theorem ix_s {z : Str} {i : Int} {c : Nat} (hz : z.length ≤ sizeLine) (g : atI z.cps.toList i = some c) (h : P (.d (.str ⟨#[c]⟩)) O) : IxD X (.d (.str z)) (.d (.int i)) O P :=
  ixd_of ix_str fun v1 v2 Hr H Q hS h1 h2 hQ => by
    cases h1
    cases h2
    exact ⟨z, i, c, rfl, rfl, hz, g, hQ _ _ (po_here h hS (.str _))⟩
/-- an item of the script -/
theorem ix_script {ns : List Int} {i : Int} {n : Int} (g : atI ns i = some n) (h : P (.d (.int n)) O) : IxD X (.s (.list (ns.map .int))) (.d (.int i)) O P :=
  ixd_of ix_list fun v1 v2 Hr H Q hS h1 h2 hQ => by
    cases h2
    cases h1 with
    | lst e1 a1 =>
      have e : ∀ {ns : List Int} {vs : List V}, DpAll X.K Hr vs (ns.map PyData.int) → vs = ns.map V.int := by
        intro ns
        induction ns with
        | nil => intro vs h; cases h; rfl
        | cons n r ih =>
          intro vs h
          cases h with
          | cons a b =>
            cases a
            rw [ih b]
            rfl
      have q := e a1
      subst q
      refine ⟨_, _, _, .int n, rfl, rfl, hS.ex.seq e1, ?_, hQ _ _ (po_here h hS (.int _))⟩
      unfold atI at g ⊢
      rw [List.length_map]
      cases e : ixN ns.length i with
      | none =>
        rw [e] at g
        cases g
      | some j =>
        rw [e] at g
        show (ns.map V.int)[j]? = some (V.int n)
        rw [List.getElem?_map, show ns[j]? = some n from g]
        rfl
end
end DL

set_option Elab.async false
set_option linter.all false
set_option maxRecDepth 100000
set_option maxHeartbeats 2000000
namespace DL
open PySem PySem.Spec PyProof.Rows L2

section
variable {X : Cx} {τ : Tau} {O : Own} {P : W → Own → Prop} {w w1 w2 : W} {pos p2 : Pos} {a : Expr} {lo hi : Option Expr}
/-! ### slices -/
def tpo (X : Cx) (e : Option Expr) : TO := fun σ H Q => ∀ (pins : List (Addr × Obj)) (s : Shared), Inv X pins σ H s → wpAny (model X.prog X.w) X.A (evalPart e X.env) (fun u s' => ∃ o H', Inv X pins σ H' s' ∧ IsPart u o ∧ Q o H') X.xe s
theorem po_tpo {e : Option Expr} : L2.PO X e (tpo X e) := ⟨fun pins s _ _ _ I h => h pins s I⟩
def PaO (K : PySem.W.Frag) (Hr : Hp) (P : Option Int → Own → Prop) : Option Int → Hp → Prop := fun b H' => ∃ O' Hr', P b O' ∧ Same Hr Hr' ∧ Sep K Hr' O' H'
def DPaR (X : Cx) (τ : Tau) (O : Own) (e : Option Expr) (P : Option Int → Own → Prop) : Prop :=
  ∀ (σ : L2.St) (Hr H : Hp) (Q : Option Int → Hp → Prop), En X.K Hr σ τ → Sep X.K Hr O H → (∀ v H', PaO X.K Hr P v H' → Q v H') → tpo X e σ H Q
structure DPa (X : Cx) (τ : Tau) (O : Own) (e : Option Expr) (P : Option Int → Own → Prop) : Prop where
  go : DPaR X τ O e P
instance {X : Cx} {τ : Tau} {O : Own} {e : Option Expr} {P : Option Int → Own → Prop} : CoeFun (DPa X τ O e P) (fun _ => DPaR X τ O e P) := ⟨DPa.go⟩
theorem dpa_none {PP : Option Int → Own → Prop} (h : PP none O) : DPa X τ O none PP := ⟨fun σ Hr H Q hE hS hQ pins s I => po_none.run pins s σ H Q I (hQ _ _ ⟨O, Hr, h, Same.refl _, hS⟩)⟩
def toI (P : Option Int → Own → Prop) : W → Own → Prop
  | .d (.int i), O => P (some i) O
  | _, _ => False
theorem dpa_some {PP : Option Int → Own → Prop} (h : DE X τ O a (toI PP)) : DPa X τ O (some a) PP := by
  refine ⟨?_⟩
  intro σ Hr H Q hE hS hQ pins s I
  refine (po_some pe_te).run pins s σ H Q I ?_
  refine h σ Hr H _ hE hS fun v H1 ⟨w, O1, Hr1, h1, e1, s1, k1⟩ => ?_
  cases w with
  | r u => exact h1.elim
  | s x => exact h1.elim
  | d x =>
    cases x with
    | int i =>
      cases k1
      exact ⟨i, rfl, hQ _ _ ⟨O1, Hr1, h1, e1, s1⟩⟩
    | _ => exact h1.elim
def cutL {α : Type} (xs : List α) (lo hi : Option Int) : List α := (xs.drop (HT.sIx xs.length 0 lo)).take (HT.sIx xs.length xs.length hi - HT.sIx xs.length 0 lo)
theorem cutL_dv {K : PySem.W.Frag} {H : Hp} {vs : List V} {ds : List PyData} (h : DvAll K H vs ds) (lo hi : Option Int) : DvAll K H (cutV vs lo hi) (cutL ds lo hi) := by
  unfold cutV cutL
  rw [h.len]
  exact (h.drop _).take _
theorem cutL_whole {α : Type} {xs : List α} {lo hi : Option Int} (h : HT.sIx xs.length 0 lo = 0 ∧ HT.sIx xs.length xs.length hi = xs.length) : cutL xs lo hi = xs := by
  unfold cutL
  rw [h.1, h.2]
  simp
/-- a slice by values -/
def SlDR (X : Cx) (w : W) (lo hi : Option Int) (O : Own) (P : W → Own → Prop) : Prop :=
  ∀ (v : V) (Hr H : Hp) (Q : VK), Sep X.K Hr O H → WOk X.K Hr v w → (∀ v H', PO X.K Hr P v H' → Q v H') →
  ∀ (pins : List (Addr × Obj)) (s : Shared) (σ : L2.St) (u vl vu : Value) (sl : Addr), Inv X pins σ H s → RelV v u → s.heap.IsSliceOf sl vl vu .none → IsPart vl lo → IsPart vu hi →
    ∃ T id, typeLookup (.type T) "__getitem__" = pure (some (.builtin id)) ∧ s.TypeIs u T ∧ wpAny (model X.prog X.w) X.A (getItem u (.ref sl)) (EP X pins σ Q) X.xe s
structure SlD (X : Cx) (w : W) (lo hi : Option Int) (O : Own) (P : W → Own → Prop) : Prop where
  go : SlDR X w lo hi O P
instance {X : Cx} {w : W} {lo hi : Option Int} {O : Own} {P : W → Own → Prop} : CoeFun (SlD X w lo hi O P) (fun _ => SlDR X w lo hi O P) := ⟨SlD.go⟩
theorem de_sl (h : DE X τ O a fun w O1 => DPa X τ O1 lo fun l O2 => DPa X τ O2 hi fun u O3 => SlD X w l u O3 P) : DE X τ O (.Subscript a (.Slice lo hi none p2) pos) P := by
  refine ⟨?_⟩
  intro σ Hr H Q hE hS hQ pins s I
  refine (pe_slice (r := fun x lo hi H Q => ∀ (pins : List (Addr × Obj)) (s : Shared) (σ : L2.St) (u vl vu : Value) (sl : Addr), Inv X pins σ H s → RelV x u → s.heap.IsSliceOf sl vl vu .none → IsPart vl lo → IsPart vu hi →
    ∃ T id, typeLookup (.type T) "__getitem__" = pure (some (.builtin id)) ∧ s.TypeIs u T ∧ wpAny (model X.prog X.w) X.A (getItem u (.ref sl)) (EP X pins σ Q) X.xe s)
    (fun pins s σ H x v vl vu lo hi sl Q I r1 r2 r3 r4 h => h pins s σ v vl vu sl I r1 r2 r3 r4) pe_te po_tpo po_tpo).run pins s σ H Q I ?_
  refine h σ Hr H _ hE hS fun x H1 ⟨w1, O1, Hr1, h1, e1, s1, k1⟩ => ?_
  refine h1 σ Hr1 H1 _ (hE.mono e1) s1 fun l H2 ⟨O2, Hr2, h2, e2, s2⟩ => ?_
  refine h2 σ Hr2 H2 _ (hE.mono (e1.trans e2)) s2 fun u H3 ⟨O3, Hr3, h3, e3, s3⟩ => ?_
  exact h3 x Hr3 H3 Q s3 (k1.mono (e2.trans e3)) fun v H' q => hQ v H' (po_to ((e1.trans e2).trans e3) q)
theorem sld_of {r : V → Option Int → Option Int → Hp → VK → Prop} {lo hi : Option Int} (ho : SlR X r)
    (k : ∀ (v : V) (Hr H : Hp) (Q : VK), Sep X.K Hr O H → WOk X.K Hr v w → (∀ v H', PO X.K Hr P v H' → Q v H') → r v lo hi H Q) : SlD X w lo hi O P := ⟨fun v Hr H Q hS h1 hQ pins s σ u vl vu sl I r1 r2 r3 r4 => ho pins s σ H v u vl vu lo hi sl Q I r1 r2 r3 r4 (k v Hr H Q hS h1 hQ)⟩
theorem sl_l {ds : List PyData} {lo hi : Option Int} (r : RdL w O ds) (h : P (.d (.list (cutL ds lo hi))) O) : SlD X w lo hi O P :=
  sld_of sl_list fun v Hr H Q hS h1 hQ => by
    obtain ⟨p, vs, rfl, e1, a1⟩ := r.at hS h1
    exact ⟨_, _, rfl, SqL.of e1, fun p hp => hQ _ _ (po_new h hS hp (.lst upd_same (dvAll_mono (same_new (hS.fresh hp).1) (cutL_dv a1 lo hi))))⟩
theorem sl_lO {ds : List PyData} {lo hi : Option Int} (r : RdL w O ds) (h : ∀ p, P (.r (.ref p)) ((p, .l (cutL ds lo hi)) :: O)) : SlD X w lo hi O P :=
  sld_of sl_list fun v Hr H Q hS h1 hQ => by
    obtain ⟨p, vs, rfl, e1, a1⟩ := r.at hS h1
    exact ⟨_, _, rfl, SqL.of e1, fun p hp => hQ _ _ ⟨_, _, Hr, h p, Same.refl _, hS.newOwn hp ⟨_, upd_same, cutL_dv a1 lo hi⟩, rfl⟩⟩
theorem sl_t {ds : List PyData} {lo hi : Option Int} (h : P (.d (.tuple (cutL ds lo hi))) O) : SlD X (.d (.tuple ds)) lo hi O P :=
  sld_of sl_tupA fun v Hr H Q hS h1 hQ => by
    cases h1 with
    | tup e1 a1 =>
      refine ⟨_, _, rfl, same_t hS.ex e1, fun q => ?_, fun q p hp => hQ _ _ (po_new h hS hp (.tup (SqT.of upd_same) (dvAll_mono (same_new (hS.fresh hp).1) (cutL_dv a1 lo hi))))⟩
      rw [a1.len] at q
      rw [cutL_whole q] at h
      exact hQ _ _ (po_here h hS (.tup e1 a1))
theorem sl_s {z : Str} {lo hi : Option Int} (hz : z.length ≤ sizeLine) (h : P (.d (.str (cutS z lo hi))) O) : SlD X (.d (.str z)) lo hi O P :=
  sld_of L2.sl_str fun v Hr H Q hS h1 hQ => by
    cases h1
    exact ⟨z, rfl, hz, hQ _ _ (po_here h hS (.str _))⟩

/-! ### built-in functions -/
theorem c_lenR {ds : List PyData} (r : RdW w O (.list ds)) (h : P (.d (.int ds.length)) O) : CallD X (.builtin "len") [w] O P :=
  calld_of call_len_seq fun vs Hr H Q hS h1 hQ => by
    cases h1 with
    | cons k1 k2 =>
      cases k2
      have d := r.dp hS k1
      cases d with
      | lst e1 a1 =>
        refine ⟨_, _, rfl, .inl e1, hQ _ _ (po_here h hS ?_)⟩
        have len : ∀ {vs : List V} {ds : List PyData}, DpAll X.K H vs ds → vs.length = ds.length := by
          intro vs ds h
          induction ds generalizing vs with
          | nil => cases h; rfl
          | cons d r ih =>
            cases h with
            | cons a b => rw [List.length_cons, List.length_cons, ih b]
        rw [len a1]
        exact .int _
theorem c_lenT {ds : List PyData} (h : P (.d (.int ds.length)) O) : CallD X (.builtin "len") [.d (.tuple ds)] O P :=
  calld_of call_len_seq fun vs Hr H Q hS h1 hQ => by
    cases h1 with
    | cons k1 k2 =>
      cases k2
      cases k1 with
      | tup e1 a1 =>
        refine ⟨_, _, rfl, .inr (same_t hS.ex e1), hQ _ _ (po_here h hS ?_)⟩
        rw [a1.len]
        exact .int _
theorem c_lenS {z : Str} (hz : z.length ≤ sizeLine) (h : P (.d (.int z.length)) O) : CallD X (.builtin "len") [.d (.str z)] O P :=
  calld_of call_len_str fun vs Hr H Q hS h1 hQ => by
    cases h1 with
    | cons k1 k2 =>
      cases k2
      cases k1
      exact ⟨z, rfl, hz, hQ _ _ (po_here h hS (.int _))⟩
theorem c_int {i : Int} (h : P (.d (.int i)) O) : CallD X (.type "int") [.d (.int i)] O P :=
  calld_of call_int1 fun vs Hr H Q hS h1 hQ => by
    cases h1 with
    | cons k1 k2 =>
      cases k2
      cases k1
      exact .inl ⟨i, rfl, hQ _ _ (po_here h hS (.int _))⟩
theorem c_intB {k : Bool} (h : P (.d (.int (if k then 1 else 0))) O) : CallD X (.type "int") [.d (.bool k)] O P :=
  calld_of call_int1 fun vs Hr H Q hS h1 hQ => by
    cases h1 with
    | cons k1 k2 =>
      cases k2
      cases k1
      exact .inr ⟨k, rfl, hQ _ _ (po_here h hS (.int _))⟩
theorem c_abs {i : Int} (h : P (.d (.int (if i < 0 then -i else i))) O) : CallD X (.builtin "abs") [.d (.int i)] O P :=
  calld_of call_abs fun vs Hr H Q hS h1 hQ => by
    cases h1 with
    | cons k1 k2 =>
      cases k2
      cases k1
      exact ⟨i, rfl, hQ _ _ (po_here h hS (.int _))⟩
theorem c_max2 {i j : Int} (hc : X.calm = true) (h : P (.d (.int (if j > i then j else i))) O) : CallD X (.builtin "max") [.d (.int i), .d (.int j)] O P :=
  calld_of (call_max2 hc) fun vs Hr H Q hS h1 hQ => by
    cases h1 with
    | cons k1 k2 =>
      cases k2 with
      | cons k3 k4 =>
        cases k4
        cases k1
        cases k3
        exact ⟨i, j, rfl, hQ _ _ (po_here h hS (.int _))⟩
theorem c_min2 {i j : Int} (hc : X.calm = true) (h : P (.d (.int (if j < i then j else i))) O) : CallD X (.builtin "min") [.d (.int i), .d (.int j)] O P :=
  calld_of (call_min2 hc) fun vs Hr H Q hS h1 hQ => by
    cases h1 with
    | cons k1 k2 =>
      cases k2 with
      | cons k3 k4 =>
        cases k4
        cases k1
        cases k3
        exact ⟨i, j, rfl, hQ _ _ (po_here h hS (.int _))⟩
theorem c_ord {c : Nat} (h : P (.d (.int c)) O) : CallD X (.builtin "ord") [.d (.str ⟨#[c]⟩)] O P :=
  calld_of call_ord fun vs Hr H Q hS h1 hQ => by
    cases h1 with
    | cons k1 k2 =>
      cases k2
      cases k1
      exact ⟨_, rfl, rfl, hQ _ _ (po_here h hS (.int _))⟩
theorem c_strI {i : Int} (hi : i.natAbs.log2 < 1920) (h : P (.d (.str (toString i))) O) : CallD X (.type "str") [.d (.int i)] O P :=
  calld_of call_str_int fun vs Hr H Q hS h1 hQ => by
    cases h1 with
    | cons k1 k2 =>
      cases k2
      cases k1
      exact ⟨i, rfl, hi, hQ _ _ (po_here h hS (.str _))⟩
theorem c_intS {z : Str} {n : Int} (hn : PySem.intText? z = some n) (hz : z.length ≤ 640) (h : P (.d (.int n)) O) : CallD X (.type "int") [.d (.str z)] O P :=
  calld_of call_int_str fun vs Hr H Q hS h1 hQ => by
    cases h1 with
    | cons k1 k2 =>
      cases k2
      cases k1
      exact ⟨z, n, rfl, hn, hz, hQ _ _ (po_here h hS (.int _))⟩
theorem c_list {ds : List PyData} (r : RdL w O ds) (h : P (.d (.list ds)) O) : CallD X (.type "list") [w] O P :=
  calld_of call_list_of fun vs Hr H Q hS h1 hQ => by
    cases h1 with
    | cons k1 k2 =>
      cases k2
      obtain ⟨p, vs, rfl, e1, a1⟩ := r.at hS k1
      exact ⟨_, _, rfl, .inl (SqL.of e1), fun p hp => hQ _ _ (po_new h hS hp (.lst upd_same (dvAll_mono (same_new (hS.fresh hp).1) a1)))⟩
theorem c_listO {ds : List PyData} (r : RdL w O ds) (h : ∀ p, P (.r (.ref p)) ((p, .l ds) :: O)) : CallD X (.type "list") [w] O P :=
  calld_of call_list_of fun vs Hr H Q hS h1 hQ => by
    cases h1 with
    | cons k1 k2 =>
      cases k2
      obtain ⟨p, vs, rfl, e1, a1⟩ := r.at hS k1
      exact ⟨_, _, rfl, .inl (SqL.of e1), fun p hp => hQ _ _ ⟨_, _, Hr, h p, Same.refl _, hS.newOwn hp ⟨_, upd_same, a1⟩, rfl⟩⟩
theorem c_listTO {ds : List PyData} (h : ∀ p, P (.r (.ref p)) ((p, .l ds) :: O)) : CallD X (.type "list") [.d (.tuple ds)] O P :=
  calld_of call_list_of fun vs Hr H Q hS h1 hQ => by
    cases h1 with
    | cons k1 k2 =>
      cases k2
      cases k1 with
      | tup e1 a1 => exact ⟨_, _, rfl, .inr (same_t hS.ex e1), fun p hp => hQ _ _ ⟨_, _, Hr, h p, Same.refl _, hS.newOwn hp ⟨_, upd_same, a1⟩, rfl⟩⟩
theorem c_listT {ds : List PyData} (h : P (.d (.list ds)) O) : CallD X (.type "list") [.d (.tuple ds)] O P :=
  calld_of call_list_of fun vs Hr H Q hS h1 hQ => by
    cases h1 with
    | cons k1 k2 =>
      cases k2
      cases k1 with
      | tup e1 a1 => exact ⟨_, _, rfl, .inr (same_t hS.ex e1), fun p hp => hQ _ _ (po_new h hS hp (.lst upd_same (dvAll_mono (same_new (hS.fresh hp).1) a1)))⟩
theorem c_tup {ds : List PyData} (r : RdL w O ds) (h : P (.d (.tuple ds)) O) : CallD X (.type "tuple") [w] O P :=
  calld_of call_tuple_of fun vs Hr H Q hS h1 hQ => by
    cases h1 with
    | cons k1 k2 =>
      cases k2
      obtain ⟨p, vs, rfl, e1, a1⟩ := r.at hS k1
      exact ⟨_, _, rfl, .inl ⟨SqL.of e1, fun p hp => hQ _ _ (po_new h hS hp (.tup (SqT.of upd_same) (dvAll_mono (same_new (hS.fresh hp).1) a1)))⟩⟩
theorem c_tupT {ds : List PyData} (h : P (.d (.tuple ds)) O) : CallD X (.type "tuple") [.d (.tuple ds)] O P :=
  calld_of call_tuple_of fun vs Hr H Q hS h1 hQ => by
    cases h1 with
    | cons k1 k2 =>
      cases k2
      cases k1 with
      | tup e1 a1 => exact ⟨_, _, rfl, .inr ⟨same_t hS.ex e1, hQ _ _ (po_here h hS (.tup e1 a1))⟩⟩
theorem c_sum {ns : List Int} (hc : X.calm = true) (r : RdL w O (ns.map .int)) (h : P (.d (.int ns.sum)) O) : CallD X (.builtin "sum") [w] O P :=
  calld_of (cr_sum hc) fun vs Hr H Q hS h1 hQ => by
    cases h1 with
    | cons k1 k2 =>
      cases k2
      obtain ⟨p, vs, rfl, e1, a1⟩ := r.at hS k1
      have q := a1.ints
      subst q
      exact ⟨_, ns, rfl, SqL.of e1, hQ _ _ (po_here h hS (.int _))⟩
theorem c_max {ns : List Int} (hc : X.calm = true) (r : RdL w O (ns.map .int)) (hn : 0 < ns.length) (h : ∀ m, m ∈ ns → (∀ y, y ∈ ns → y ≤ m) → P (.d (.int m)) O) : CallD X (.builtin "max") [w] O P :=
  calld_of (cr_max hc) fun vs Hr H Q hS h1 hQ => by
    cases h1 with
    | cons k1 k2 =>
      cases k2
      obtain ⟨p, vs, rfl, e1, a1⟩ := r.at hS k1
      have q := a1.ints
      subst q
      exact ⟨_, ns, rfl, SqL.of e1, hn, fun m hm hy => hQ _ _ (po_here (h m hm hy) hS (.int _))⟩
theorem c_min {ns : List Int} (hc : X.calm = true) (r : RdL w O (ns.map .int)) (hn : 0 < ns.length) (h : ∀ m, m ∈ ns → (∀ y, y ∈ ns → m ≤ y) → P (.d (.int m)) O) : CallD X (.builtin "min") [w] O P :=
  calld_of (cr_min hc) fun vs Hr H Q hS h1 hQ => by
    cases h1 with
    | cons k1 k2 =>
      cases k2
      obtain ⟨p, vs, rfl, e1, a1⟩ := r.at hS k1
      have q := a1.ints
      subst q
      exact ⟨_, ns, rfl, SqL.of e1, hn, fun m hm hy => hQ _ _ (po_here (h m hm hy) hS (.int _))⟩
theorem c_all {bs : List Bool} (hc : X.calm = true) (r : RdL w O (bs.map .bool)) (h : P (.d (.bool (bs.all id))) O) : CallD X (.builtin "all") [w] O P :=
  calld_of (cr_all hc) fun vs Hr H Q hS h1 hQ => by
    cases h1 with
    | cons k1 k2 =>
      cases k2
      obtain ⟨p, vs, rfl, e1, a1⟩ := r.at hS k1
      have q := a1.bools
      subst q
      exact ⟨_, bs, rfl, SqL.of e1, hQ _ _ (po_here h hS (.bl _))⟩
theorem c_any {bs : List Bool} (hc : X.calm = true) (r : RdL w O (bs.map .bool)) (h : P (.d (.bool (bs.any id))) O) : CallD X (.builtin "any") [w] O P :=
  calld_of (cr_any hc) fun vs Hr H Q hS h1 hQ => by
    cases h1 with
    | cons k1 k2 =>
      cases k2
      obtain ⟨p, vs, rfl, e1, a1⟩ := r.at hS k1
      have q := a1.bools
      subst q
      exact ⟨_, bs, rfl, SqL.of e1, hQ _ _ (po_here h hS (.bl _))⟩
/-- isinstance(x, T) -/
def tyN : PyData → String
  | .none => "NoneType" | .bool _ => "bool" | .int _ => "int" | .str _ => "str" | .list _ => "list" | .tuple _ => "tuple" | .dict _ => "dict"
def kB (T n : String) : Bool := T == n || (T == "int" && n == "bool")
def isT (T : String) (d : PyData) : Bool := kB T (tyN d)
theorem tyx_of {K : PySem.W.Frag} {H : Hp} {v : V} {d : PyData} (h : Dv K H v d) : TyX K H v (.type (tyN d)) := by
  cases h with
  | non => exact .base .non
  | bl b => exact .base (.bl b)
  | int i => exact .base (.int i)
  | str x => exact .base (.str x)
  | lst e a => exact .base (.lst e)
  | tup e a =>
    rcases e with (e | ⟨o, e⟩) | ⟨o, its, n, hk, hc, _⟩
    · exact .base (.tup e)
    · exact .fTuple e
    · exact .kTuple hk hc
def goodT (T : String) : Prop := T = "int" ∨ T = "bool" ∨ T = "str" ∨ T = "list" ∨ T = "tuple"
theorem kit_all {T : String} (hT : goodT T) (d : PyData) : kitB (tyN d) T = some (isT T d) := by
  rcases hT with rfl | rfl | rfl | rfl | rfl <;> cases d <;> simp only [tyN, isT] <;> decide +kernel
theorem c_isi {T : String} {d : PyData} (hT : goodT T) (h : P (.d (.bool (isT T d))) O) : CallD X (.builtin "isinstance") [.d d, .r (.ty T)] O P :=
  calld_of call_isi fun vs Hr H Q hS h1 hQ => by
    cases h1 with
    | cons k1 k2 =>
      cases k2 with
      | cons k3 k4 =>
        cases k4
        cases k3
        exact ⟨_, _, _, _, _, rfl, .ty T, tyx_of (dv_mono hS.ex k1), kit_ty (kit_all hT d), hQ _ _ (po_here h hS (.bl _))⟩
theorem c_isiO {T : String} {p : Addr} (j : Nat) {ds : List PyData} (hj : O[j]? = some (p, .l ds)) (hT : goodT T) (h : P (.d (.bool (isT T (.list ds)))) O) : CallD X (.builtin "isinstance") [.r (.ref p), .r (.ty T)] O P :=
  calld_of call_isi fun vs Hr H Q hS h1 hQ => by
    cases h1 with
    | cons k1 k2 =>
      cases k2 with
      | cons k3 k4 =>
        cases k4
        cases k3
        cases k1
        obtain ⟨vs, e1, a1⟩ := hS.cell hj
        exact ⟨_, _, _, _, _, rfl, .ty T, .base (.lst e1), kit_ty (kit_all hT (.list ds)), hQ _ _ (po_here h hS (.bl _))⟩
/-- sorted(..) of ints, of texts -/
theorem c_sortI {ns : List Int} (r : RdL w O (ns.map .int)) (hn : ns.length < 64) (h : ∀ ns' : List Int, ns'.Perm ns → ns'.Pairwise (· ≤ ·) → P (.d (.list (ns'.map .int))) O) : CallD X (.builtin "sorted") [w] O P :=
  calld_of cr_sorted fun vs Hr H Q hS h1 hQ => by
    cases h1 with
    | cons k1 k2 =>
      cases k2
      obtain ⟨p, vs, rfl, e1, a1⟩ := r.at hS k1
      have q := a1.ints
      subst q
      exact ⟨_, ns, rfl, SqL.of e1, hn, fun ns' p h1 h2 hp => hQ _ _ (po_new (h ns' h1 h2) hS hp (.lst upd_same (DvAll.ofInts ns')))⟩

/-! ### methods -/
def TyD (X : Cx) (T : String) (w : W) (O : Own) : Prop := ∀ (v : V) (Hr H : Hp), Sep X.K Hr O H → WOk X.K Hr v w → tyV X.K T v H
theorem tyd_s {z : Str} : TyD X "str" (.d (.str z)) O := fun v Hr H S k => by cases k; rfl
theorem tyd_l {ds : List PyData} (r : RdL w O ds) : TyD X "list" w O := fun v Hr H S k => by
  obtain ⟨p, vs, rfl, e1, a1⟩ := r.at S k
  exact .inl ⟨rfl, _, SqL.of e1⟩
theorem de_met {T id : String} {o e : Expr} {es : List Expr} {name : Str} {apos cpos : Pos} (pa : PlainAttrs T) (slot : Slot T name id) (hty : typeOf (.builtin id) = pure (.type "method_descriptor"))
    (h : DE X τ O o fun w O1 => TyD X T w O1 ∧ DA X τ O1 (e :: es) fun ws O2 => MetD X T id w ws O2 P)
    (hbase : attributeBase o name X.env (eval o X.env) = eval o X.env := by rfl)
    (hfew : ((backTo cpos (starEach (e :: es) X.env)).all (fun x => !x.1) && (backToKw cpos (keywordEach [] X.env)).all (fun x => x.1.isSome)
      && decide ((e :: es).length + ([] : List Keyword).length + (if ([] : List Keyword).isEmpty then 0 else 1) < 30)) = true := by rfl)
    (hline : (apos.endLine == cpos.line) = true := by rfl) (hs : starEach (e :: es) X.env = (false, eval e X.env) :: starEach es X.env := by rfl) (hplain : (backTo cpos (starEach es X.env)).any (·.1) = false := by rfl) :
    DE X τ O (.Call (.Attribute o name apos) (e :: es) [] cpos) P := by
  refine ⟨?_⟩
  intro σ Hr H Q hE hS hQ pins s I
  refine (pe_bm pa slot hty mr_ok pe_te pa_ta hbase hfew hline hs hplain).run pins s σ H Q I ?_
  refine h σ Hr H _ hE hS fun x H1 ⟨w1, O1, Hr1, ⟨h1, h1'⟩, e1, s1, k1⟩ => ⟨h1 x Hr1 H1 s1 k1, ?_⟩
  refine h1' σ Hr1 H1 _ (hE.mono e1) s1 fun ys H2 ⟨ws, O2, Hr2, h2, e2, s2, k2⟩ => ?_
  exact h2 x ys Hr2 H2 Q s2 (k1.mono e2) k2 fun v H' q => hQ v H' (po_to (e1.trans e2) q)
theorem de_met0 {T id : String} {o : Expr} {name : Str} {apos cpos : Pos} (pa : PlainAttrs T) (slot : Slot T name id) (hty : typeOf (.builtin id) = pure (.type "method_descriptor"))
    (h : DE X τ O o fun w O1 => TyD X T w O1 ∧ MetD X T id w [] O1 P)
    (hbase : attributeBase o name X.env (eval o X.env) = eval o X.env := by rfl) (hline : (apos.endLine == cpos.line) = true := by rfl) : DE X τ O (.Call (.Attribute o name apos) [] [] cpos) P := by
  refine ⟨?_⟩
  intro σ Hr H Q hE hS hQ pins s I
  refine (pe_bm0 pa slot hty mr_ok pe_te hbase hline).run pins s σ H Q I ?_
  refine h σ Hr H _ hE hS fun x H1 ⟨w1, O1, Hr1, ⟨h1, h2⟩, e1, s1, k1⟩ => ⟨h1 x Hr1 H1 s1 k1, ?_⟩
  exact h2 x [] Hr1 H1 Q s1 k1 .nil fun v H' q => hQ v H' (po_to e1 q)
theorem m_append {p : Addr} {j : Nat} {ds : List PyData} {d : PyData} (hj : O[j]? = some (p, .l ds)) (hz : ds.length < sizeLine) (h : P (.d .none) (O.set j (p, .l (ds ++ [d])))) : MetD X "list" "list.append" (.r (.ref p)) [.d d] O P :=
  metd_of mt_append fun v vs Hr H Q hS h0 h1 hQ => by
    cases h0
    cases h1 with
    | cons k1 k2 =>
      cases k2
      obtain ⟨us, e1, a1⟩ := hS.cell hj
      exact ⟨_, _, _, rfl, rfl, e1, by rw [a1.len]; exact hz, hQ _ _ ⟨_, _, Hr, h, Same.refl _, hS.put hj ⟨_, upd_same, a1.snoc k1⟩, .non⟩⟩
theorem m_insert {p : Addr} {j : Nat} {ds : List PyData} {d : PyData} {i : Int} (hj : O[j]? = some (p, .l ds)) (hz : ds.length < sizeLine) (h0 : 0 ≤ i) (h1 : i < 2 ^ 63) (h : P (.d .none) (O.set j (p, .l (ds.take i.toNat ++ [d] ++ ds.drop i.toNat)))) :
    MetD X "list" "list.insert" (.r (.ref p)) [.d (.int i), .d d] O P :=
  metd_of mt_insert fun v vs Hr H Q hS k0 k1 hQ => by
    cases k0
    cases k1 with
    | cons k1 k2 =>
      cases k2 with
      | cons k2 k3 =>
        cases k3
        cases k1
        obtain ⟨us, e1, a1⟩ := hS.cell hj
        exact ⟨_, _, i, _, rfl, rfl, e1, by rw [a1.len]; exact hz, h0, h1, hQ _ _ ⟨_, _, Hr, h, Same.refl _, hS.put hj ⟨_, upd_same, ((a1.take _).snoc k2).app (a1.drop _)⟩, .non⟩⟩
theorem m_join {x : Str} {ys : List Str} (r : RdL w O (ys.map .str)) (hz : (ys.map (·.length)).sum + ys.length * x.length ≤ 16777216) (h : P (.d (.str (Txt.join x ys))) O) : MetD X "str" "str.join" (.d (.str x)) [w] O P :=
  metd_of mt_join fun v vs Hr H Q hS k0 k1 hQ => by
    cases k0
    cases k1 with
    | cons k1 k2 =>
      cases k2
      obtain ⟨p, vs, rfl, e1, a1⟩ := r.at hS k1
      have q := a1.strs
      subst q
      exact ⟨x, _, ys, rfl, rfl, .inl (SqL.of e1), hz, hQ _ _ (po_here h hS (.str _))⟩
theorem m_index {ds : List PyData} {d z : PyData} (j : Nat) (hu : X.A.units + 65 < cLine) (r : RdL w O ds) (hl : SeqAt.shaped (.list ds) = true) (hd : SeqAt.shaped d = true) (hj : ds[j]? = some z) (he : PyData.eqv z d = true)
    (hn : ∀ (m : Nat) (z' : PyData), m < j → ds[m]? = some z' → PyData.eqv z' d = false) (h : P (.d (.int j)) O) : MetD X "list" "list.index" w [.d d] O P :=
  metd_of (mt_indexD hu) fun v vs Hr H Q hS k0 k1 hQ => by
    cases k1 with
    | cons k1 k2 =>
      cases k2
      obtain ⟨p, us, rfl, e1, a1⟩ := r.at hS k0
      exact ⟨_, _, d, ds, j, z, rfl, rfl, (Dv.lst e1 (dvAll_mono hS.ex a1)).dp, (dv_mono hS.ex k1).dp, hl, hd, hj, he, hn, hQ _ _ (po_here h hS (.int _))⟩
theorem m_isdigit {z : Str} (h : P (.d (.bool (Txt.isdigit z))) O) : MetD X "str" "str.isdigit" (.d (.str z)) [] O P :=
  metd_of mt_isdigit fun v vs Hr H Q hS k0 k1 hQ => by
    cases k0
    cases k1
    exact ⟨z, rfl, rfl, trivial, hQ _ _ (po_here h hS (.bl _))⟩
theorem m_startswith {z y : Str} (h : P (.d (.bool (Txt.startswith z y))) O) : MetD X "str" "str.startswith" (.d (.str z)) [.d (.str y)] O P :=
  metd_of mt_startswith fun v vs Hr H Q hS k0 k1 hQ => by
    cases k0
    cases k1 with
    | cons k1 k2 =>
      cases k2
      cases k1
      exact ⟨z, y, rfl, rfl, hQ _ _ (po_here h hS (.bl _))⟩
end
end DL

set_option Elab.async false
set_option linter.all false
set_option maxRecDepth 100000
set_option maxHeartbeats 2000000
namespace DL
open PySem PySem.Spec PyProof.Rows L2

/-! ### statements -/
structure DEn where
  nx : Tau → Own → Prop
  rt : W → Own → Prop
  bk : Tau → Own → Prop := fun _ _ => False
  ct : Tau → Own → Prop := fun _ _ => False
def NO (K : PySem.W.Frag) (Hr : Hp) (P : Tau → Own → Prop) : L2.St → Hp → Prop := fun σ' H' => ∃ τ' O' Hr', P τ' O' ∧ Same Hr Hr' ∧ Sep K Hr' O' H' ∧ En K Hr' σ' τ'
structure EOk (K : PySem.W.Frag) (Hr : Hp) (D : DEn) (E : Ends) : Prop where
  nx : ∀ σ H, NO K Hr D.nx σ H → E.nx σ H
  rt : ∀ v H, PO K Hr D.rt v H → E.rt v H
  bk : ∀ σ H, NO K Hr D.bk σ H → E.bk σ H
  ct : ∀ σ H, NO K Hr D.ct σ H → E.ct σ H
def DSR (X : Cx) (τ : Tau) (O : Own) (st : Stmt) (D : DEn) : Prop :=
  ∀ (σ : L2.St) (Hr H : Hp) (E : Ends), En X.K Hr σ τ → Sep X.K Hr O H → EOk X.K Hr D E → ts X st E σ H
structure DS (X : Cx) (τ : Tau) (O : Own) (st : Stmt) (D : DEn) : Prop where
  go : DSR X τ O st D
instance {X : Cx} {τ : Tau} {O : Own} {st : Stmt} {D : DEn} : CoeFun (DS X τ O st D) (fun _ => DSR X τ O st D) := ⟨DS.go⟩
def DSsR (X : Cx) (τ : Tau) (O : Own) (st : List Stmt) (D : DEn) : Prop :=
  ∀ (σ : L2.St) (Hr H : Hp) (E : Ends), En X.K Hr σ τ → Sep X.K Hr O H → EOk X.K Hr D E → tss X st E σ H
structure DSs (X : Cx) (τ : Tau) (O : Own) (st : List Stmt) (D : DEn) : Prop where
  go : DSsR X τ O st D
instance {X : Cx} {τ : Tau} {O : Own} {st : List Stmt} {D : DEn} : CoeFun (DSs X τ O st D) (fun _ => DSsR X τ O st D) := ⟨DSs.go⟩
/-- targets -/
def tg (X : Cx) (t : Expr) : TG := fun v σ H Q => ∀ (pins : List (Addr × Obj)) (s : Shared) (u : Value), Inv X pins σ H s → RelV v u →
    wpAny (model X.prog X.w) X.A (assign t X.env u) (fun _ s' => ∃ σ' H', Inv X pins σ' H' s' ∧ Q σ' H') X.xe s
theorem pg_tg {X : Cx} {t : Expr} : PG X t (tg X t) := ⟨fun pins s _ _ _ u _ I r h => h pins s u I r⟩
def DTgR (X : Cx) (τ : Tau) (O : Own) (t : Expr) (w : W) (P : Tau → Own → Prop) : Prop :=
  ∀ (v : V) (σ : L2.St) (Hr H : Hp) (Q : L2.St → Hp → Prop), En X.K Hr σ τ → Sep X.K Hr O H → WOk X.K Hr v w → (∀ σ' H', NO X.K Hr P σ' H' → Q σ' H') → tg X t v σ H Q

structure DTg (X : Cx) (τ : Tau) (O : Own) (t : Expr) (w : W) (P : Tau → Own → Prop) : Prop where
  go : DTgR X τ O t w P
instance {X : Cx} {τ : Tau} {O : Own} {t : Expr} {w : W} {P : Tau → Own → Prop} : CoeFun (DTg X τ O t w P) (fun _ => DTgR X τ O t w P) := ⟨DTg.go⟩
section
variable {X : Cx} {τ : Tau} {O : Own} {D : DEn} {P : W → Own → Prop} {PN : Tau → Own → Prop} {e a b c : Expr} {st : Stmt} {rest body body2 : List Stmt} {pos : Pos} {w : W}
theorem no_to {K : PySem.W.Frag} {Hr Hr' : Hp} (e : Same Hr Hr') {σ : L2.St} {H : Hp} (h : NO K Hr' PN σ H) : NO K Hr PN σ H := by
  obtain ⟨τ', O', Hr2, h1, h2, h3, h4⟩ := h
  exact ⟨τ', O', Hr2, h1, e.trans h2, h3, h4⟩
theorem EOk.to {K : PySem.W.Frag} {Hr Hr' : Hp} {E : Ends} (h : EOk K Hr D E) (e : Same Hr Hr') : EOk K Hr' D E :=
  ⟨fun σ H q => h.nx σ H (no_to e q), fun v H q => h.rt v H (po_to e q), fun σ H q => h.bk σ H (no_to e q), fun σ H q => h.ct σ H (no_to e q)⟩
theorem EOk.nxOf {K : PySem.W.Frag} {Hr : Hp} {E : Ends} (h : EOk K Hr D E) {N : Tau → Own → Prop} {N' : L2.St → Hp → Prop} (q : ∀ σ H, NO K Hr N σ H → N' σ H) : EOk K Hr { D with nx := N } { E with nx := N' } :=
  ⟨q, h.rt, h.bk, h.ct⟩
theorem dss_nil (h : D.nx τ O) : DSs X τ O [] D := ⟨fun σ Hr H E hE hS hD pins s I => pss_nil.run pins s σ H E I (hD.nx σ H ⟨τ, O, Hr, h, Same.refl _, hS, hE⟩)⟩
theorem dss_one (h : DS X τ O st D) : DSs X τ O [st] D := ⟨fun σ Hr H E hE hS hD pins s I => (pss_one ps_ts).run pins s σ H E I (h σ Hr H E hE hS hD)⟩
theorem dss_cons (h : DS X τ O st { D with nx := fun τ' O' => DSs X τ' O' rest D }) : DSs X τ O (st :: rest) D := ⟨fun σ Hr H E hE hS hD pins s I =>
  (pss_cons ps_ts pss_tss).run pins s σ H E I (h σ Hr H _ hE hS (hD.nxOf fun σ' H' ⟨τ', O', Hr', p, e, s', k⟩ => p σ' Hr' H' E k s' (hD.to e)))⟩
theorem ds_pass (h : D.nx τ O) : DS X τ O (.Pass pos) D := ⟨fun σ Hr H E hE hS hD pins s I => ps_pass.run pins s σ H E I (hD.nx σ H ⟨τ, O, Hr, h, Same.refl _, hS, hE⟩)⟩
theorem ds_break (h : D.bk τ O) : DS X τ O (.Break pos) D := ⟨fun σ Hr H E hE hS hD pins s I => ps_break.run pins s σ H E I (hD.bk σ H ⟨τ, O, Hr, h, Same.refl _, hS, hE⟩)⟩
theorem ds_continue (h : D.ct τ O) : DS X τ O (.Continue pos) D := ⟨fun σ Hr H E hE hS hD pins s I => ps_continue.run pins s σ H E I (hD.ct σ H ⟨τ, O, Hr, h, Same.refl _, hS, hE⟩)⟩
theorem ds_doc {x j pos'} (h : D.nx τ O) : DS X τ O (.Expr (.Constant (.str x) j pos) pos') D := ⟨fun σ Hr H E hE hS hD pins s I => ps_doc.run pins s σ H E I (hD.nx σ H ⟨τ, O, Hr, h, Same.refl _, hS, hE⟩)⟩
theorem ds_expr (h : DE X τ O e fun _ O1 => D.nx τ O1) (hs : swapsWith e none pos.line X.env = pure false := by rfl) : DS X τ O (.Expr e pos) D := ⟨fun σ Hr H E hE hS hD pins s I =>
  (ps_expr pe_te hs).run pins s σ H E I (h σ Hr H _ hE hS fun v H' ⟨w, O', Hr', p, e, s', k⟩ => hD.nx σ H' ⟨τ, O', Hr', p, e, s', hE.mono e⟩)⟩
theorem ds_ret (h : DE X τ O e D.rt) : DS X τ O (.Return (some e) pos) D := ⟨fun σ Hr H E hE hS hD pins s I =>
  (ps_ret pe_te).run pins s σ H E I (h σ Hr H _ hE hS hD.rt)⟩
theorem ds_retN (h : D.rt (.d .none) O) : DS X τ O (.Return none pos) D := ⟨fun σ Hr H E hE hS hD pins s I => ps_retN.run pins s σ H E I (hD.rt _ H (po_here h hS .non))⟩
theorem ds_if (h : DT X τ O c fun k O1 => if k = true then DSs X τ O1 body D else DSs X τ O1 body2 D) : DS X τ O (.If c body body2 pos) D := by
  refine ⟨?_⟩
  intro σ Hr H E hE hS hD pins s I
  refine (ps_if pt_tt pss_tss pss_tss).run pins s σ H E I ?_
  refine h σ Hr H _ hE hS fun k H1 ⟨O1, Hr1, p1, e1, s1⟩ => ?_
  cases k with
  | true => exact DSs.go p1 σ Hr1 H1 E (hE.mono e1) s1 (hD.to e1)
  | false => exact DSs.go p1 σ Hr1 H1 E (hE.mono e1) s1 (hD.to e1)
/-- name = e -/
theorem ds_asg (i : Nat) {x : Str} {pos' : Pos} (h : DE X τ O e fun w O1 => D.nx (τ.set i (some w)) O1) (hN : X.N.Nodup) (hi : X.N[i]? = some x := by rfl) (hx : Loc X.env.scope x := by first | exact Or.inl rfl | exact Or.inr rfl)
    (hs : swapsWith e (some (.Name x pos')) pos.line X.env = pure false := by rfl) (hf : X.fn x = true ∨ X.env.scope.names.lookup x = some .local := by first | exact .inl rfl | exact .inr rfl) : DS X τ O (.Assign [.Name x pos'] e pos) D := ⟨fun σ Hr H E hE hS hD pins s I => (ps_set hN hi hx pe_te hs hf).run pins s σ H E I
    (h σ Hr H _ hE hS fun v H' ⟨w, O', Hr', p, e, s', k⟩ => hD.nx _ H' ⟨_, O', Hr', p, e, s', (hE.mono e).set i k⟩)⟩
/-- o[i] = e, an owned list -/
theorem ds_sub {o i : Expr} {pos' : Pos} (h : DE X τ O e fun w O1 => DE X τ O1 o fun wo O2 => DE X τ O2 i fun wi O3 =>
      ∃ (p : Addr) (j : Nat) (ds : List PyData) (k : Int) (n : Nat) (d : PyData), w = .d d ∧ wo = .r (.ref p) ∧ wi = .d (.int k) ∧ O3[j]? = some (p, .l ds) ∧ ixN ds.length k = some n ∧ D.nx τ (O3.set j (p, .l (ds.set n d))))
    (hs : swapsWithSole [.Subscript o i pos'] e pos.line X.env = pure false := by rfl) (hw : swappedStores [.Subscript o i pos'] e X.env = pure none := by rfl)
    (h1 : (assignEach [.Subscript o i pos'] X.env).map (·.2) = [assign (.Subscript o i pos') X.env] := by rfl)
    (ha : ∀ v, assign (.Subscript o i pos') X.env v = (do
      let ov ← holding [v] (eval o X.env)
      let iv ← holding [v, ov] (eval i X.env)
      standAt pos'
      holding [v, ov, iv] (setItem ov iv v)
      release [v, ov, iv] []) := by intro _; rfl) : DS X τ O (.Assign [.Subscript o i pos'] e pos) D := by
  refine ⟨?_⟩
  intro σ Hr H E hE hS hD pins s I
  refine (ps_asg pe_te (pg_sub pe_te pe_te set_list ha) hs hw h1).run pins s σ H E I ?_
  refine h σ Hr H _ hE hS fun v1 H1 ⟨w1, O1, Hr1, h1, e1, s1, k1⟩ => ?_
  refine h1 σ Hr1 H1 _ (hE.mono e1) s1 fun v2 H2 ⟨w2, O2, Hr2, h2, e2, s2, k2⟩ => ?_
  refine h2 σ Hr2 H2 _ (hE.mono (e1.trans e2)) s2 fun v3 H3 ⟨w3, O3, Hr3, ⟨p, j, ds, k, n, d, q1, q2, q3, hj, hn, hx⟩, e3, s3, k3⟩ => ?_
  subst q1 q2 q3
  cases k2
  cases k3
  obtain ⟨us, u1, u2⟩ := s3.cell hj
  have kd : Dv X.K Hr3 v1 d := dv_mono (e2.trans e3) k1
  exact ⟨p, us, k, n, rfl, rfl, u1, by rw [u2.len]; exact hn, hD.nx _ _ ⟨_, _, Hr3, hx, (e1.trans e2).trans e3, s3.put hj ⟨_, upd_same, u2.set n kd⟩, hE.mono ((e1.trans e2).trans e3)⟩⟩
/-- x op= e -/
theorem ds_aug (i : Nat) {x : Str} {pos' : Pos} {op : Operator} (ht : τ[i]? = some (some w)) (h : DE X τ O e fun w2 O1 => BinD X (inplaceOp op) w w2 O1 fun w3 O2 => D.nx (τ.set i (some w3)) O2) (hN : X.N.Nodup) (hi : X.N[i]? = some x := by rfl)
    (hx : Loc X.env.scope x := by first | exact Or.inl rfl | exact Or.inr rfl) (hf : X.fn x = true ∨ X.env.scope.names.lookup x = some .local := by first | exact .inl rfl | exact .inr rfl) : DS X τ O (.AugAssign (.Name x pos') op e pos) D := by
  refine ⟨?_⟩
  intro σ Hr H E hE hS hD pins s I
  refine (ps_aug (ti := BR X (inplaceOp op)) hN hi hx pe_te br_ok hf).run pins s σ H E I ?_
  obtain ⟨v, hv, kv⟩ := hE.at_ i w ht
  refine ⟨v, hv, h σ Hr H _ hE hS fun v2 H2 ⟨w2, O2, Hr2, h2, e2, s2, k2⟩ => ?_⟩
  refine h2 v v2 Hr2 H2 _ s2 (kv.mono e2) k2 fun v3 H3 ⟨w3, O3, Hr3, h3, e3, s3, k3⟩ => ?_
  exact hD.nx _ _ ⟨_, O3, Hr3, h3, e2.trans e3, s3, (hE.mono (e2.trans e3)).set i k3⟩

/-! ### what is owned, kept or forgotten -/
theorem dss_keep (i : Nat) {p : Addr} {ds : List PyData} {O' : Own} (ht : τ[i]? = some (some (.r (.ref p)))) (h : DSs X (τ.set i (some (.d (.list ds)))) O' rest D) : DSs X τ ((p, .l ds) :: O') rest D := by
  refine ⟨?_⟩
  intro σ Hr H E hE hS hD
  obtain ⟨Hr', e, s', d⟩ := hS.keep
  obtain ⟨v, hv, kv⟩ := hE.at_ i _ ht
  have kv' : v = .ref p := kv
  subst kv'
  have hE' := (hE.mono e).set i (v := .ref p) (w := .d (.list ds)) d
  have es : σ.set i (some (.ref p)) = σ := by
    apply List.ext_getElem?
    intro j
    rw [List.getElem?_set]
    by_cases q : i = j
    · subst q
      rw [if_pos rfl, if_pos (List.getElem?_eq_some_iff.mp hv).1]
      exact hv.symm
    · rw [if_neg q]
  rw [es] at hE'
  exact h σ Hr' H E hE' s' (hD.to e)
theorem dss_drop {x : Addr × Cell} {O' : Own} (h : DSs X τ O' rest D) : DSs X τ (x :: O') rest D := ⟨fun σ Hr H E hE hS hD => h σ Hr H E hE hS.drop hD⟩
/-- the value kept: an owned list that comes is let go -/
def kp (P : W → Own → Prop) : W → Own → Prop := fun w O => P w O ∨ ∃ (p : Addr) (ds : List PyData) (O' : Own), w = .r (.ref p) ∧ O = (p, .l ds) :: O' ∧ P (.d (.list ds)) O'
theorem po_kp {K : PySem.W.Frag} {Hr : Hp} {v : V} {H : Hp} (h : PO K Hr (kp P) v H) : PO K Hr P v H := by
  obtain ⟨w, O', Hr', h, e, s, k⟩ := h
  rcases h with h | ⟨p, ds, O2, rfl, rfl, h⟩
  · exact ⟨w, O', Hr', h, e, s, k⟩
  · obtain ⟨Hr2, e2, s2, d⟩ := s.keep
    have k' : v = .ref p := k
    subst k'
    exact ⟨_, O2, Hr2, h, e.trans e2, s2, d⟩
theorem de_kp (h : DE X τ O e (kp P)) : DE X τ O e P := ⟨fun σ Hr H Q hE hS hQ => h σ Hr H Q hE hS fun v H' q => hQ v H' (po_kp q)⟩
/-- garbage forgotten: cells at the head -/
def dr (P : W → Own → Prop) : W → Own → Prop := fun w O => ∃ (n : Nat), P w (O.drop n)
theorem Sep.dropN {K : PySem.W.Frag} {Hr H : Hp} : ∀ (n : Nat) {O : Own}, Sep K Hr O H → Sep K Hr (O.drop n) H
  | 0, _, h => h
  | n + 1, [], h => h
  | n + 1, x :: O, h => Sep.dropN n h.drop
theorem de_dr (h : DE X τ O e (dr P)) : DE X τ O e P := ⟨fun σ Hr H Q hE hS hQ => h σ Hr H Q hE hS fun v H' ⟨w, O', Hr', ⟨n, p⟩, e, s, k⟩ => hQ v H' ⟨w, O'.drop n, Hr', p, e, s.dropN n, k⟩⟩
/-! ### targets -/
theorem dtg_name (i : Nat) {x : Str} (h : PN (τ.set i (some w)) O) (hN : X.N.Nodup) (hi : X.N[i]? = some x := by rfl) (hx : Loc X.env.scope x := by first | exact Or.inl rfl | exact Or.inr rfl)
    (hf : X.fn x = true ∨ X.env.scope.names.lookup x = some .local := by first | exact .inl rfl | exact .inr rfl) : DTg X τ O (.Name x pos) w PN := ⟨fun v σ Hr H Q hE hS hv hQ pins s u I r => (pg_name hN hi hx hf).run pins s σ H v u Q I r (hQ _ _ ⟨_, O, Hr, h, Same.refl _, hS, hE.set i hv⟩)⟩
/-- several targets -/
def tgs (X : Cx) (ts : List Expr) : TGs := fun vs σ H Q => ∀ (pins : List (Addr × Obj)) (s : Shared) (us : List Value), Inv X pins σ H s → Vals vs us →
    wpAny (model X.prog X.w) X.A (assignInOrder ((assignEach ts X.env).map (·.2)) us) (fun _ s' => ∃ σ' H', Inv X pins σ' H' s' ∧ Q σ' H') X.xe s
theorem pgs_tgs {X : Cx} {t : List Expr} : PGs X t (tgs X t) := ⟨fun pins s _ _ _ us _ I r h => h pins s us I r⟩
def DTgsR (X : Cx) (τ : Tau) (O : Own) (t : List Expr) (ds : List PyData) (P : Tau → Own → Prop) : Prop :=
  ∀ (vs : List V) (σ : L2.St) (Hr H : Hp) (Q : L2.St → Hp → Prop), En X.K Hr σ τ → Sep X.K Hr O H → DvAll X.K Hr vs ds → (∀ σ' H', NO X.K Hr P σ' H' → Q σ' H') → tgs X t vs σ H Q
structure DTgs (X : Cx) (τ : Tau) (O : Own) (t : List Expr) (ds : List PyData) (P : Tau → Own → Prop) : Prop where
  go : DTgsR X τ O t ds P
instance {X : Cx} {τ : Tau} {O : Own} {t : List Expr} {ds : List PyData} {P : Tau → Own → Prop} : CoeFun (DTgs X τ O t ds P) (fun _ => DTgsR X τ O t ds P) := ⟨DTgs.go⟩
theorem dtgs_nil (h : PN τ O) : DTgs X τ O [] [] PN := ⟨fun vs σ Hr H Q hE hS hv hQ pins s us I r => by
  cases hv
  exact pgs_nil.run pins s σ H [] us Q I r ⟨rfl, hQ _ _ ⟨_, O, Hr, h, Same.refl _, hS, hE⟩⟩⟩
theorem dtgs_cons {t : Expr} {ts : List Expr} {d : PyData} {ds : List PyData} (h : DTg X τ O t (.d d) fun τ' O' => DTgs X τ' O' ts ds PN) (hs : (assignEach (t :: ts) X.env).map (·.2) = assign t X.env :: (assignEach ts X.env).map (·.2) := by rfl) : DTgs X τ O (t :: ts) (d :: ds) PN := ⟨fun vs σ Hr H Q hE hS hv hQ pins s us I r => by
    cases hv with
    | cons k1 k2 =>
      refine (pgs_cons pg_tg pgs_tgs hs).run pins s σ H _ us Q I r ⟨_, _, rfl, ?_⟩
      exact h _ σ Hr H _ hE hS k1 fun σ' H' ⟨τ', O', Hr', p, e, s', q⟩ => p _ σ' Hr' H' Q q s' (dvAll_mono e k2) fun σ2 H2 z => hQ _ _ (no_to e z)⟩
theorem dtg_tup {es : List Expr} {k : Nat} {ds : List PyData} (h : DTgs X τ O es ds PN) (hn : (assignEach es X.env).length = ds.length) (hc : X.calm = true := by rfl) (hst : (assignEach es X.env).findIdx? (·.1) = none := by rfl) :
    DTg X τ O (.Tuple es k pos) (.d (.tuple ds)) PN := ⟨fun v σ Hr H Q hE hS hv hQ pins s u I r => by
    cases hv with
    | tup k1 k2 => exact (pg_tup hc pgs_tgs hn hst).run pins s σ H _ u Q I r ⟨_, _, rfl, same_t hS.ex k1, k2.len, h _ σ Hr H Q hE hS k2 hQ⟩⟩
/-- target = e, any target -/
theorem ds_asgT {t : Expr} (h : DE X τ O e fun w O1 => DTg X τ O1 t w D.nx) (hs : swapsWithSole [t] e pos.line X.env = pure false := by rfl) (hw : swappedStores [t] e X.env = pure none := by rfl)
    (h1 : (assignEach [t] X.env).map (·.2) = [assign t X.env] := by rfl) : DS X τ O (.Assign [t] e pos) D := ⟨fun σ Hr H E hE hS hD pins s I => (ps_asg pe_te pg_tg hs hw h1).run pins s σ H E I
    (h σ Hr H _ hE hS fun v H' ⟨w, O', Hr', p, e, s', k⟩ => p v σ Hr' H' _ (hE.mono e) s' k fun σ2 H2 z => hD.nx _ _ (no_to e z))⟩
/-! ### what is walked -/
def ti (X : Cx) (tg iter : Expr) : TI := fun σ H R => ∀ (pins : List (Addr × Obj)) (s : Shared), Inv X pins σ H s →
    wpAny (model X.prog X.w) X.A (eval iter X.env) (fun v s1 => wpAny (model X.prog X.w) X.A (pyIter v) (PIE X pins σ tg R) X.xe s1) X.xe s
theorem pi_ti {t iter : Expr} : PI X t iter (ti X t iter) := ⟨fun pins s _ _ _ I h => h pins s I⟩
/-- what is given at a turn: a thing that is known, or a new tuple of such -/
def Gives (K : PySem.W.Frag) (Hr : Hp) (ds : List PyData) : Nat → Hp → V → Hp → Prop := fun i H v H' =>
  ∃ d, ds[i]? = some d ∧ ((H' = H ∧ Dv K Hr v d) ∨ ∃ (T : Addr) (vs : List V) (es : List PyData), v = .ref T ∧ H T = none ∧ H' = upd H T (.tup vs) ∧ d = .tuple es ∧ DvAll K Hr vs es)
def ItOk (K : PySem.W.Frag) (Hr : Hp) (J : It) (ds : List PyData) : Prop := Walk J ds.length (fun H => Same Hr H) (Gives K Hr ds)
def IterDR (X : Cx) (t iter : Expr) (τ : Tau) (O : Own) (R : List PyData → Own → Prop) : Prop :=
  ∀ (σ : L2.St) (Hr H : Hp) (Rr : It → Hp → Prop), En X.K Hr σ τ → Sep X.K Hr O H →
    (∀ J H1 ds O1 Hr1, R ds O1 → Same Hr Hr1 → Sep X.K Hr1 O1 H1 → ItOk X.K Hr1 J ds → Rr J H1) → ti X t iter σ H Rr
structure IterD (X : Cx) (t iter : Expr) (τ : Tau) (O : Own) (R : List PyData → Own → Prop) : Prop where
  go : IterDR X t iter τ O R
instance {X : Cx} {t iter : Expr} {τ : Tau} {O : Own} {R : List PyData → Own → Prop} : CoeFun (IterD X t iter τ O R) (fun _ => IterDR X t iter τ O R) := ⟨IterD.go⟩
theorem Gives.sep {K : PySem.W.Frag} {Hr Hr' H H' : Hp} {ds : List PyData} {i : Nat} {v : V} {O : Own} (g : Gives K Hr ds i H v H') (e : Same Hr Hr') (S : Sep K Hr' O H) :
    ∃ d Hr2, ds[i]? = some d ∧ Same Hr' Hr2 ∧ Sep K Hr2 O H' ∧ Dv K Hr2 v d := by
  obtain ⟨d, hd, ⟨rfl, k⟩ | ⟨T, vs, es, rfl, hT, rfl, rfl, k⟩⟩ := g
  · exact ⟨d, Hr', hd, Same.refl _, S, dv_mono e k⟩
  · exact ⟨_, upd Hr' T (.tup vs), hd, same_new (S.fresh hT).1, S.new hT, .tup (SqT.of upd_same) (dvAll_mono (e.trans (same_new (S.fresh hT).1)) k)⟩
theorem it_list {t iter : Expr} {R : List PyData → Own → Prop} (h : DE X τ O iter fun w O1 => ∃ ds, w = .d (.list ds) ∧ R ds O1) : IterD X t iter τ O R := by
  refine ⟨?_⟩
  intro σ Hr H Rr hE hS hR pins s I
  refine (pi_list pe_te).run pins s σ H Rr I ?_
  refine h σ Hr H _ hE hS fun v H1 ⟨w, O1, Hr1, ⟨ds, hw, hr⟩, e1, s1, k1⟩ => ?_
  subst hw
  cases k1 with
  | lst ha da =>
    refine ⟨_, rfl, ⟨_, SqL.of (s1.ex _ _ ha)⟩, hR _ H1 ds O1 Hr1 hr e1 s1 ?_⟩
    unfold ItOk
    rw [← da.len]
    exact (walk_list (K := X.K)).mono (fun H g => SqL.of (g _ _ ha)) fun i H x H' hi g y => by
      obtain ⟨d, hd, kd⟩ := da.getV y.2
      exact ⟨d, hd, .inl ⟨y.1, kd⟩⟩
theorem it_tup {t iter : Expr} {R : List PyData → Own → Prop} (h : DE X τ O iter fun w O1 => ∃ ds, w = .d (.tuple ds) ∧ R ds O1) : IterD X t iter τ O R := by
  refine ⟨?_⟩
  intro σ Hr H Rr hE hS hR pins s I
  refine (pi_tup pe_te).run pins s σ H Rr I ?_
  refine h σ Hr H _ hE hS fun v H1 ⟨w, O1, Hr1, ⟨ds, hw, hr⟩, e1, s1, k1⟩ => ?_
  subst hw
  cases k1 with
  | tup ha da =>
    refine ⟨_, rfl, ⟨_, same_t s1.ex ha⟩, hR _ H1 ds O1 Hr1 hr e1 s1 ?_⟩
    unfold ItOk
    rw [← da.len]
    exact (walk_tup (K := X.K)).mono (fun H g => same_t g ha) fun i H x H' hi g y => by
      obtain ⟨d, hd, kd⟩ := da.getV y.2
      exact ⟨d, hd, .inl ⟨y.1, kd⟩⟩
/-- the signs of a text -/
def signs (z : Str) : List PyData := z.cps.toList.map fun c => .str ⟨#[c]⟩
theorem it_str {t iter : Expr} {R : List PyData → Own → Prop} (h : DE X τ O iter fun w O1 => ∃ z, w = .d (.str z) ∧ R (signs z) O1) : IterD X t iter τ O R := by
  refine ⟨?_⟩
  intro σ Hr H Rr hE hS hR pins s I
  refine (pi_str pe_te).run pins s σ H Rr I ?_
  refine h σ Hr H _ hE hS fun v H1 ⟨w, O1, Hr1, ⟨z, hw, hr⟩, e1, s1, k1⟩ => ?_
  subst hw
  cases k1
  refine ⟨z, rfl, hR _ H1 (signs z) O1 Hr1 hr e1 s1 ?_⟩
  unfold ItOk
  have e : (signs z).length = z.cps.size := by simp [signs]
  rw [e]
  exact walk_str.mono (fun _ _ => trivial) fun i H x H' hi g y => by
    obtain ⟨y1, c, y2, rfl⟩ := y
    refine ⟨.str ⟨#[c]⟩, ?_, .inl ⟨y1, .str _⟩⟩
    simp [signs, y2]
def rangeD (lo : Int) (n : Nat) : List PyData := (List.range n).map fun i => .int (lo + (i : Nat))
theorem it_range1 {t a : Expr} {p pos : Pos} {R : List PyData → Own → Prop} (hm : X.mg "range" = none) (h : DE X τ O a fun w O1 => ∃ n, w = .d (.int n) ∧ -(2 ^ 62) ≤ n ∧ n < 2 ^ 62 ∧ R (rangeD 0 n.toNat) O1) (hg : Gl X "range" := by rfl)
    (hs : starEach [a] X.env = [(false, eval a X.env)] := by rfl) : IterD X t (.Call (.Name "range" p) [a] [] pos) τ O R := by
  refine ⟨?_⟩
  intro σ Hr H Rr hE hS hR pins s I
  refine (pi_range1 hg hm pa_ta hs).run pins s σ H Rr I ?_
  refine (da_cons (PA := fun ws O1 => ∃ n, ws = [.d (.int n)] ∧ -(2 ^ 62) ≤ n ∧ n < 2 ^ 62 ∧ R (rangeD 0 n.toNat) O1) (h.mono fun w O' ⟨n, e, h1, h2, h3⟩ => da_nil ⟨n, by rw [e], h1, h2, h3⟩) (by rw [hs]; rfl)) σ Hr H _ hE hS fun vs H1 ⟨ws, O1, Hr1, ⟨n, hw, h1, h2, hr⟩, e1, s1, k1⟩ => ?_
  subst hw
  cases k1 with
  | cons k2 k3 =>
    cases k3
    cases k2
    refine ⟨n, rfl, h1, h2, hR _ H1 _ O1 Hr1 hr e1 s1 ?_⟩
    unfold ItOk
    have e : (rangeD 0 n.toNat).length = n.toNat := by simp [rangeD]
    rw [e]
    exact walk_range.mono (fun _ _ => trivial) fun i H x H' hi g y => by
      obtain ⟨y1, rfl⟩ := y
      refine ⟨.int (0 + (i : Nat)), ?_, .inl ⟨y1, .int _⟩⟩
      simp [rangeD, hi]
theorem it_range2 {t a b : Expr} {p pos : Pos} {R : List PyData → Own → Prop} (hm : X.mg "range" = none)
    (h : DE X τ O a fun w O1 => DE X τ O1 b fun w2 O2 => ∃ m n, w = .d (.int m) ∧ w2 = .d (.int n) ∧ -(2 ^ 62) ≤ m ∧ m < 2 ^ 62 ∧ -(2 ^ 62) ≤ n ∧ n < 2 ^ 62 ∧ R (rangeD m (n - m).toNat) O2) (hg : Gl X "range" := by rfl)
    (hs : starEach [a, b] X.env = [(false, eval a X.env), (false, eval b X.env)] := by rfl) (hs2 : starEach [b] X.env = [(false, eval b X.env)] := by rfl) : IterD X t (.Call (.Name "range" p) [a, b] [] pos) τ O R := by
  refine ⟨?_⟩
  intro σ Hr H Rr hE hS hR pins s I
  refine (pi_range2 hg hm pa_ta hs hs2).run pins s σ H Rr I ?_
  refine (da_cons (PA := fun ws O1 => ∃ m n, ws = [.d (.int m), .d (.int n)] ∧ -(2 ^ 62) ≤ m ∧ m < 2 ^ 62 ∧ -(2 ^ 62) ≤ n ∧ n < 2 ^ 62 ∧ R (rangeD m (n - m).toNat) O1) (h.mono fun w O' h' => da_cons (h'.mono fun w2 O2 ⟨m, n, e1, e2, h1, h2, h3, h4, h5⟩ => da_nil ⟨m, n, by rw [e1, e2], h1, h2, h3, h4, h5⟩) (by rw [hs2]; rfl)) (by rw [hs, hs2])) σ Hr H _ hE hS fun vs H1 ⟨ws, O1, Hr1, ⟨m, n, hw, h1, h2, h3, h4, hr⟩, e1, s1, k1⟩ => ?_
  subst hw
  cases k1 with
  | cons k2 k3 =>
    cases k3 with
    | cons k4 k5 =>
      cases k5
      cases k2
      cases k4
      refine ⟨m, n, rfl, ⟨h1, h2, h3, h4⟩, hR _ H1 _ O1 Hr1 hr e1 s1 ?_⟩
      unfold ItOk
      have e : (rangeD m (n - m).toNat).length = (n - m).toNat := by simp [rangeD]
      rw [e]
      exact walk_range.mono (fun _ _ => trivial) fun i H x H' hi g y => by
        obtain ⟨y1, rfl⟩ := y
        refine ⟨.int (m + (i : Nat)), ?_, .inl ⟨y1, .int _⟩⟩
        simp [rangeD, hi]
/-! ### for, while -/
theorem ds_for {t iter : Expr} (h : IterD X t iter τ O fun ds O1 => ∃ Iv : Nat → Tau → Own → Prop, Iv 0 τ O1 ∧
      (∀ (i : Nat) (d : PyData) (τ' : Tau) (O' : Own), ds[i]? = some d → Iv i τ' O' → DTg X τ' O' t (.d d) fun τ2 O2 => DSs X τ2 O2 body { nx := Iv (i + 1), ct := Iv (i + 1), bk := D.nx, rt := D.rt }) ∧ (∀ τ' O', Iv ds.length τ' O' → D.nx τ' O'))
    (hp : PassesOwn (model X.prog X.w) X.A X.env X.xe := by exact PassesOwn.never) (hc : X.calm = true := by rfl) (hs : ∀ x, foldedSetIterable iter X.env x = pure x := by intro _; rfl) : DS X τ O (.For t iter body [] pos) D := by
  refine ⟨?_⟩
  intro σ Hr H E hE hS hD pins s I
  refine (ps_for hp hc pi_ti pg_tg pss_tss hs).run pins s σ H E I ?_
  refine h σ Hr H _ hE hS fun J H1 ds O1 Hr1 ⟨Iv, h0, hstep, hend⟩ e1 s1 ok => ?_
  refine for_it ok (fun i σ' H' => NO X.K Hr1 (Iv i) σ' H') ⟨τ, O1, Hr1, h0, Same.refl _, s1, hE.mono e1⟩ (fun i σ' H' _ ⟨_, _, Hr', _, e, s', _⟩ => fun a o q => s'.ex a o (e a o q)) ?_ ?_
  · intro i x σ' H' H2 hi ⟨τ', O', Hr', p, e, s', k⟩ y
    obtain ⟨d, Hr2, hd, e2, s2, kd⟩ := y.sep e s'
    refine hstep i d τ' O' hd p x σ' Hr2 H2 _ (k.mono e2) s2 kd fun σ3 H3 ⟨τ3, O3, Hr3, p3, e3, s3, k3⟩ => ?_
    refine p3 σ3 Hr3 H3 _ k3 s3 ⟨fun σ4 H4 q => no_to ((e.trans e2).trans e3) q, fun v H4 q => hD.rt v H4 (po_to (((e1.trans e).trans e2).trans e3) q), fun σ4 H4 q => hD.nx σ4 H4 (no_to (((e1.trans e).trans e2).trans e3) q), fun σ4 H4 q => no_to ((e.trans e2).trans e3) q⟩
  · intro σ' H' ⟨τ', O', Hr', p, e, s', k⟩
    exact hD.nx _ _ ⟨τ', O', Hr', hend τ' O' p, e1.trans e, s', k⟩
theorem ds_while (Iv : Nat → Tau → Own → Prop) (h0 : ∃ m, Iv m τ O) (hs : ∀ m τ' O', Iv m τ' O' → DT X τ' O' c fun k O1 => if k = true then DSs X τ' O1 body { nx := fun τ2 O2 => ∃ m', m' < m ∧ Iv m' τ2 O2, ct := fun τ2 O2 => ∃ m', m' < m ∧ Iv m' τ2 O2, bk := D.nx, rt := D.rt } else D.nx τ' O1)
    (hp : PassesOwn (model X.prog X.w) X.A X.env X.xe := by exact PassesOwn.never) : DS X τ O (.While c body [] pos) D := by
  refine ⟨?_⟩
  intro σ Hr H E hE hS hD pins s I
  refine (ps_while hp pt_tt pss_tss).run pins s σ H E I ?_
  obtain ⟨m0, h0⟩ := h0
  refine ⟨fun m σ' H' => NO X.K Hr (Iv m) σ' H', ⟨m0, τ, O, Hr, h0, Same.refl _, hS, hE⟩, fun m σ' H' ⟨τ', O', Hr', p, e, s', k⟩ => ?_⟩
  refine hs m τ' O' p σ' Hr' H' _ k s' fun b H1 ⟨O1, Hr1, p1, e1, s1⟩ => ?_
  cases b with
  | true =>
    rw [if_pos rfl] at p1 ⊢
    refine ⟨fun σ2 H2 => ∃ m', m' < m ∧ NO X.K Hr (Iv m') σ2 H2, fun σ2 H2 q => q, p1 σ' Hr1 H1 _ (k.mono e1) s1 ⟨fun σ4 H4 ⟨τ4, O4, Hr4, ⟨m', hm, q⟩, e4, s4, k4⟩ => ⟨m', hm, τ4, O4, Hr4, q, (e.trans e1).trans e4, s4, k4⟩,
      fun v H4 q => hD.rt v H4 (po_to (e.trans e1) q), fun σ4 H4 q => hD.nx σ4 H4 (no_to (e.trans e1) q), fun σ4 H4 ⟨τ4, O4, Hr4, ⟨m', hm, q⟩, e4, s4, k4⟩ => ⟨m', hm, τ4, O4, Hr4, q, (e.trans e1).trans e4, s4, k4⟩⟩⟩
  | false =>
    rw [if_neg Bool.false_ne_true] at p1 ⊢
    exact hD.nx _ _ ⟨τ', O1, Hr1, p1, e.trans e1, s1, k.mono e1⟩
end
end DL

set_option Elab.async false
set_option linter.all false
set_option maxRecDepth 100000
set_option maxHeartbeats 2000000
namespace DL
open PySem PySem.Spec PyProof.Rows L2

/-! ### comprehensions -/
def wipeT (τ : Tau) : List Nat → Tau
  | [] => τ
  | v :: vs => (wipeT τ vs).set v none
theorem set_none_at {α : Type} {l : List (Option α)} {v i : Nat} {w : α} (h : (l.set v none)[i]? = some (some w)) : l[i]? = some (some w) ∧ i ≠ v := by
  rw [List.getElem?_set] at h
  by_cases e : v = i
  · rw [if_pos e] at h
    split at h <;> cases h
  · rw [if_neg e] at h
    exact ⟨h, fun q => e q.symm⟩
theorem En.forget {K : PySem.W.Frag} {Hr : Hp} {σ : L2.St} {τ : Tau} (h : En K Hr σ τ) (v : Nat) : En K Hr (σ.set v none) (τ.set v none) := by
  refine ⟨by rw [List.length_set, List.length_set]; exact h.len, fun i w q => ?_⟩
  obtain ⟨q1, q2⟩ := set_none_at q
  obtain ⟨u, a, b⟩ := h.at_ i w q1
  exact ⟨u, by rw [List.getElem?_set, if_neg (fun e => q2 e.symm)]; exact a, b⟩
theorem En.wiped {K : PySem.W.Frag} {Hr : Hp} {σ : L2.St} {τ : Tau} (h : En K Hr σ τ) : ∀ vs : List Nat, En K Hr (wipe σ vs) (wipeT τ vs)
  | [] => h
  | v :: vs => (En.wiped h vs).forget v
theorem set_comm' {σ : L2.St} {i j : Nat} {a b : Option V} (h : i ≠ j) : (σ.set i a).set j b = (σ.set j b).set i a := List.set_comm a b h
theorem wipe_set {j : Nat} {x : Option V} : ∀ {vs : List Nat} {σ : L2.St}, j ∈ vs → wipe (σ.set j x) vs = wipe σ vs
  | v :: vs, σ, h => by
    show (wipe (σ.set j x) vs).set v none = (wipe σ vs).set v none
    by_cases e : j ∈ vs
    · rw [wipe_set e]
    · have e2 : j = v := by
        rcases List.mem_cons.mp h with q | q
        · exact q
        · exact absurd q e
      subst e2
      have aux : ∀ (us : List Nat), j ∉ us → wipe (σ.set j x) us = (wipe σ us).set j x := by
        intro us
        induction us with
        | nil => intro _; rfl
        | cons u us ih =>
          intro hu
          show (wipe (σ.set j x) us).set u none = ((wipe σ us).set u none).set j x
          rw [ih (fun q => hu (List.mem_cons_of_mem _ q))]
          exact set_comm' (fun q => hu (by rw [q]; exact List.mem_cons_self))
      rw [aux vs e, List.set_set]
theorem wipe_wipe {vs : List Nat} : ∀ {us : List Nat} {σ : L2.St}, (∀ i ∈ us, i ∈ vs) → wipe (wipe σ us) vs = wipe σ vs
  | [], σ, _ => rfl
  | u :: us, σ, h => by
    show wipe ((wipe σ us).set u none) vs = wipe σ vs
    rw [wipe_set (h u List.mem_cons_self)]
    exact wipe_wipe fun i hi => h i (List.mem_cons_of_mem _ hi)
/-- the target is stored: from τ to τ' -/
def TgOk (K : PySem.W.Frag) (g : TG) (vs : List Nat) (d : PyData) (τ τ' : Tau) : Prop :=
  ∀ (v : V) (σ : L2.St) (Hr H : Hp) (Q : L2.St → Hp → Prop), En K Hr σ τ → Same Hr H → Dv K Hr v d → (∀ σ', En K Hr σ' τ' → (∀ σ0, σ = wipe σ0 vs → wipe σ' vs = wipe σ0 vs) → Q σ' H) → g v σ H Q
theorem tgok_name {K : PySem.W.Frag} {vs : List Nat} {d : PyData} {τ : Tau} (j : Nat) (hj : j ∈ vs) : TgOk K (gName j) vs d τ (τ.set j (some (.d d))) :=
  fun v σ Hr H Q hE e k q => q _ (hE.set j k) fun σ0 h => by
    subst h
    rw [wipe_set hj]
    exact wipe_wipe fun _ h => h
theorem tgok_pair {K : PySem.W.Frag} {vs : List Nat} {d1 d2 : PyData} {τ : Tau} (i j : Nat) (hi : i ∈ vs) (hj : j ∈ vs) : TgOk K (gTup K 2 (gCons (gName i) (gCons (gName j) gNil))) vs (.tuple [d1, d2]) τ ((τ.set i (some (.d d1))).set j (some (.d d2))) :=
  fun v σ Hr H Q hE e k q => by
    cases k with
    | tup k1 k2 =>
      cases k2 with
      | cons a1 b1 =>
        cases b1 with
        | cons a2 b2 =>
          cases b2
          refine ⟨_, _, rfl, same_t e k1, rfl, _, _, rfl, _, _, rfl, rfl, q _ ((hE.set i (w := .d d1) a1).set j (w := .d d2) a2) fun σ0 h => ?_⟩
          subst h
          rw [wipe_set hj, wipe_set hi]
          exact wipe_wipe fun _ h => h

/-- a clause's tests -/
def tts (X : Cx) (ifs : List Expr) : TT := fun σ H Q => ∀ (pins : List (Addr × Obj)) (s : Shared), Inv X pins σ H s →
    wpAny (model X.prog X.w) X.A (forIn ifs true fun c r => if r = true then do let ok ← isTrue c X.env (eval c X.env); pure (ForInStep.yield ok) else pure (ForInStep.yield r)) (TP X pins σ Q) X.xe s
def DTsR (X : Cx) (τ : Tau) (O : Own) (ifs : List Expr) (P : Bool → Own → Prop) : Prop :=
  ∀ (σ : L2.St) (Hr H : Hp) (Q : Bool → Hp → Prop), En X.K Hr σ τ → Sep X.K Hr O H → (∀ v H', TQ X.K Hr P v H' → Q v H') → tts X ifs σ H Q
structure DTs (X : Cx) (τ : Tau) (O : Own) (ifs : List Expr) (P : Bool → Own → Prop) : Prop where
  go : DTsR X τ O ifs P
instance {X : Cx} {τ : Tau} {O : Own} {ifs : List Expr} {P : Bool → Own → Prop} : CoeFun (DTs X τ O ifs P) (fun _ => DTsR X τ O ifs P) := ⟨DTs.go⟩
theorem dts_nil {X : Cx} {τ : Tau} {O : Own} {P : Bool → Own → Prop} (h : P true O) : DTs X τ O [] P := ⟨fun σ Hr H Q hE hS hQ pins s I => pts_nil.run pins s σ H Q I (hQ _ _ ⟨O, Hr, h, Same.refl _, hS⟩)⟩
theorem dts_one {X : Cx} {τ : Tau} {O : Own} {P : Bool → Own → Prop} {c : Expr} (h : DT X τ O c P) : DTs X τ O [c] P := ⟨fun σ Hr H Q hE hS hQ pins s I => (pts_one pt_tt).run pins s σ H Q I (h σ Hr H Q hE hS hQ)⟩
section
variable {X : Cx} {τ : Tau} {O : Own} {P : W → Own → Prop} {D : DEn} {elt t iter : Expr} {ifs : List Expr} {scope : Scope} {own : List (Str × Nat)} {pos spos : Pos} {g : TG}
/-- the context of a comprehension's block -/
abbrev blk (X : Cx) (scope : Scope) (s : Shared) (H : Hp) (C : Addr) (cl : List (Str × Addr)) (fp : List Addr) : Cx := X.blk s H scope (compEnvC scope cl C X.env) fp
/-- what a comprehension asks: Iv by the turn, what was made so far, what is owned; Md: what the tests leave -/
def LcD (X : Cx) (τ : Tau) (O : Own) (elt : Expr) (ifs : List Expr) (scope : Scope) (vs : List Nat) (g : TG) (P : Addr → List PyData → Own → Prop) (ds : List PyData) : Prop :=
  ∃ Iv : Nat → List PyData → Own → Prop, Iv 0 [] O ∧
    (∀ (i : Nat) (d : PyData) (acc : List PyData) (O' : Own), ds[i]? = some d → Iv i acc O' → ∃ τ2, TgOk X.K g vs d (wipeT τ vs) τ2 ∧
      ∀ (p : Addr), ∃ Md : Bool → Own → Prop,
        (∀ (s : Shared) (H : Hp) (C : Addr) (cl : List (Str × Addr)) (fp : List Addr), DTs (blk X scope s H C cl fp) τ2 ((p, .l acc) :: O') ifs Md) ∧
        (∀ (s : Shared) (H : Hp) (C : Addr) (cl : List (Str × Addr)) (fp : List Addr) (O3 : Own), Md true O3 → DE (blk X scope s H C cl fp) τ2 O3 elt fun w O4 => ∃ y O5, w = .d y ∧ O4 = (p, .l acc) :: O5 ∧ acc.length < sizeLine ∧ Iv (i + 1) (acc ++ [y]) O5) ∧
        (∀ O3, Md false O3 → ∃ O5, O3 = (p, .l acc) :: O5 ∧ Iv (i + 1) acc O5)) ∧
    ∀ (acc : List PyData) (O' : Own) (p : Addr), Iv ds.length acc O' → P p acc O'
abbrev tIfs (X : Cx) (scope : Scope) (ifs : List Expr) : TT := fun σ H Q => ∀ (s : Shared) (H' : Hp) (C : Addr) (cl : List (Str × Addr)) (fp : List Addr), tts (blk X scope s H' C cl fp) ifs σ H Q
abbrev tElt (X : Cx) (scope : Scope) (elt : Expr) : TE := fun σ H Q => ∀ (s : Shared) (H' : Hp) (C : Addr) (cl : List (Str × Addr)) (fp : List Addr), te (blk X scope s H' C cl fp) elt σ H Q
theorem lc_data {vs : List Nat} {PL : Addr → List PyData → Own → Prop} (h : IterD X t iter τ O fun ds O1 => LcD X τ O1 elt ifs scope vs g PL ds)
    {σ : L2.St} {Hr H : Hp} {Q : VK} (hE : En X.K Hr σ τ) (hS : Sep X.K Hr O H) (hQ : ∀ v H', PO X.K Hr (fun w O' => ∃ p acc O2, w = .r (.ref p) ∧ O' = (p, .l acc) :: O2 ∧ PL p acc O2) v H' → Q v H') :
    tLc (ti X t iter) g (tIfs X scope ifs) (tElt X scope elt) vs σ H Q := by
  refine h σ Hr H _ hE hS fun J H1 ds O1 Hr1 ⟨Iv, h0, hstep, hend⟩ e1 s1 ok => ?_
  intro Dl hD
  refine lc_it (g := g) (vs := vs) (σ := σ) (tt := tIfs X scope ifs) (te := tElt X scope elt) (Qd := fun H' => Q (.ref Dl) H') ok (fun i H' => ∃ (acc : List PyData) (O' : Own) (Hr' : Hp), Iv i acc O' ∧ Same Hr1 Hr' ∧ Sep X.K Hr' ((Dl, .l acc) :: O') H') ⟨[], O1, Hr1, h0, Same.refl _, s1.newOwn hD ⟨[], upd_same, .nil⟩⟩ (fun i H' _ ⟨_, _, Hr', _, e, s'⟩ => fun a o q => s'.ex a o (e a o q)) ?_ ?_
  · intro i x H2 H3 hi ⟨acc, O', Hr', hI, e, s'⟩ y
    obtain ⟨d, Hr2, hd, e2, s2, kd⟩ := y.sep e s'
    obtain ⟨τ2, htg, hb⟩ := hstep i d acc O' hd hI
    have e3 : Same Hr Hr2 := (e1.trans e).trans e2
    refine htg x (wipe σ vs) Hr2 H3 _ ((hE.mono e3).wiped vs) s2.ex kd fun σ' hE' hw => ⟨hw σ rfl, ?_⟩
    obtain ⟨Md, m1, m2, m3⟩ := hb Dl
    intro s0 H0 C cl fp
    refine m1 s0 H0 C cl fp σ' Hr2 H3 _ hE' s2 fun k H4 ⟨O4, Hr4, p4, e4, s4⟩ => ?_
    cases k with
    | true =>
      rw [if_pos rfl]
      intro s0 H0 C cl fp
      refine m2 s0 H0 C cl fp O4 p4 σ' Hr4 H4 _ (hE'.mono e4) s4 fun v H5 ⟨w, O5, Hr5, ⟨y, O6, hw, ho, hz, hI5⟩, e5, s5, k5⟩ => ?_
      subst hw ho
      obtain ⟨us, u1, u2⟩ := s5.cell (j := 0) rfl
      exact ⟨us, u1, by rw [u2.len]; exact hz, acc ++ [y], O6, Hr5, hI5, ((e.trans e2).trans e4).trans e5, s5.put (j := 0) rfl ⟨_, upd_same, u2.snoc k5⟩⟩
    | false =>
      rw [if_neg Bool.false_ne_true]
      obtain ⟨O5, q, hI5⟩ := m3 O4 p4
      subst q
      exact ⟨acc, O5, Hr4, hI5, (e.trans e2).trans e4, s4⟩
  · intro H' ⟨acc, O', Hr', hI, e, s'⟩
    exact hQ _ _ ⟨_, _, Hr', ⟨Dl, acc, O', rfl, rfl, hend acc O' Dl hI⟩, e1.trans e, s', rfl⟩
/-- [elt for t in iter if ..], the new list owned -/
theorem de_lcO (own : List (Str × Nat)) (g : TG) (hN : X.N.Nodup) (ok : BlkOk X.N X.env.scope scope own) (hg : ∀ (s : Shared) (H : Hp) (C : Addr) (cl : List (Str × Addr)) (fp : List Addr), PG (blk X scope s H C cl fp) t g)
    (h : IterD X t iter τ O fun ds O1 => LcD X τ O1 elt ifs scope (own.map (·.2)) g (fun p acc O2 => P (.r (.ref p)) ((p, .l acc) :: O2)) ds) (hc : X.calm = true := by rfl) (hs : ∀ x, foldedSetIterable iter X.env x = pure x := by intro _; rfl) :
    DE X τ O (.ListComp elt [⟨t, iter, ifs, 0⟩] scope pos) P := by
  refine ⟨?_⟩
  intro σ Hr H Q hE hS hQ pins s I
  refine (pe_lc (own := own) (tt := tIfs X scope ifs) (te := tElt X scope elt) hc hN pi_ti ok hg (fun s H C cl fp => ⟨fun pins s1 σ H1 Q I h => h s H C cl fp pins s1 I⟩) (fun s H C cl fp => ⟨fun pins s1 σ H1 Q I h => h s H C cl fp pins s1 I⟩) hs).run pins s σ H Q I ?_
  exact lc_data h hE hS fun v H' ⟨w, O', Hr', ⟨p, acc, O2, hw, ho, hP⟩, e, s', k⟩ => hQ v H' ⟨w, O', Hr', by rw [hw, ho]; exact hP, e, s', k⟩
theorem de_lc (own : List (Str × Nat)) (g : TG) (hN : X.N.Nodup) (ok : BlkOk X.N X.env.scope scope own) (hg : ∀ (s : Shared) (H : Hp) (C : Addr) (cl : List (Str × Addr)) (fp : List Addr), PG (blk X scope s H C cl fp) t g)
    (h : IterD X t iter τ O fun ds O1 => LcD X τ O1 elt ifs scope (own.map (·.2)) g (fun _ acc O2 => P (.d (.list acc)) O2) ds) (hc : X.calm = true := by rfl) (hs : ∀ x, foldedSetIterable iter X.env x = pure x := by intro _; rfl) :
    DE X τ O (.ListComp elt [⟨t, iter, ifs, 0⟩] scope pos) P := by
  refine de_kp (de_lcO own g hN ok hg ⟨fun σ Hr H Rr hE hS hR => h σ Hr H Rr hE hS fun J H1 ds O1 Hr1 ⟨Iv, a, b, c⟩ e s k => hR J H1 ds O1 Hr1 ⟨Iv, a, b, fun acc O' p q => .inr ⟨p, acc, O', rfl, rfl, c acc O' p q⟩⟩ e s k⟩ hc hs)
/-- name = [..], the list owned -/
theorem ds_setLcO (i : Nat) (own : List (Str × Nat)) (g : TG) {y : Str} {py : Pos} (hN : X.N.Nodup) (ok : BlkOk X.N X.env.scope scope own) (hg : ∀ (s : Shared) (H : Hp) (C : Addr) (cl : List (Str × Addr)) (fp : List Addr), PG (blk X scope s H C cl fp) t g)
    (h : IterD X t iter τ O fun ds O1 => LcD X τ O1 elt ifs scope (own.map (·.2)) g (fun p acc O2 => D.nx (τ.set i (some (.r (.ref p)))) ((p, .l acc) :: O2)) ds)
    (hsw : swapsWith (.ListComp elt [⟨t, iter, ifs, 0⟩] scope pos) (some (.Name y py)) spos.line X.env = pure true := by exact sw_true rfl rfl rfl (by decide +kernel))
    (hc : X.calm = true := by rfl) (hs : ∀ x, foldedSetIterable iter X.env x = pure x := by intro _; rfl) (hy : X.N[i]? = some y := by rfl) (hyl : X.env.scope.names.lookup y = some .local := by rfl) :
    DS X τ O (.Assign [.Name y py] (.ListComp elt [⟨t, iter, ifs, 0⟩] scope pos) spos) D := by
  refine ⟨?_⟩
  intro σ Hr H E hE hS hD pins s I
  refine (ps_setLc (own := own) (tt := tIfs X scope ifs) (te := tElt X scope elt) hc hN hy hyl hsw pi_ti ok hg (fun s H C cl fp => ⟨fun pins s1 σ H1 Q I h => h s H C cl fp pins s1 I⟩) (fun s H C cl fp => ⟨fun pins s1 σ H1 Q I h => h s H C cl fp pins s1 I⟩) hs).run pins s σ H E I ?_
  exact lc_data h hE hS fun v H' ⟨w, O', Hr', ⟨p, acc, O2, hw, ho, hP⟩, e, s', k⟩ => hD.nx _ H' ⟨_, _, Hr', hP, e, by rw [← ho]; exact s', (hE.mono e).set i (v := v) (w := .r (.ref p)) (by rw [hw] at k; exact k)⟩
theorem ds_setLc (i : Nat) (own : List (Str × Nat)) (g : TG) {y : Str} {py : Pos} (hN : X.N.Nodup) (ok : BlkOk X.N X.env.scope scope own) (hg : ∀ (s : Shared) (H : Hp) (C : Addr) (cl : List (Str × Addr)) (fp : List Addr), PG (blk X scope s H C cl fp) t g)
    (h : IterD X t iter τ O fun ds O1 => LcD X τ O1 elt ifs scope (own.map (·.2)) g (fun _ acc O2 => D.nx (τ.set i (some (.d (.list acc)))) O2) ds)
    (hsw : swapsWith (.ListComp elt [⟨t, iter, ifs, 0⟩] scope pos) (some (.Name y py)) spos.line X.env = pure true := by exact sw_true rfl rfl rfl (by decide +kernel))
    (hc : X.calm = true := by rfl) (hs : ∀ x, foldedSetIterable iter X.env x = pure x := by intro _; rfl) (hy : X.N[i]? = some y := by rfl) (hyl : X.env.scope.names.lookup y = some .local := by rfl) :
    DS X τ O (.Assign [.Name y py] (.ListComp elt [⟨t, iter, ifs, 0⟩] scope pos) spos) D := by
  refine ⟨?_⟩
  intro σ Hr H E hE hS hD pins s I
  refine (ps_setLc (own := own) (tt := tIfs X scope ifs) (te := tElt X scope elt) hc hN hy hyl hsw pi_ti ok hg (fun s H C cl fp => ⟨fun pins s1 σ H1 Q I h => h s H C cl fp pins s1 I⟩) (fun s H C cl fp => ⟨fun pins s1 σ H1 Q I h => h s H C cl fp pins s1 I⟩) hs).run pins s σ H E I ?_
  exact lc_data (PL := fun _ acc O2 => D.nx (τ.set i (some (.d (.list acc)))) O2) h hE hS fun v H' ⟨w, O', Hr', ⟨p, acc, O2, hw, ho, hP⟩, e, s', k⟩ => by
    subst hw ho
    obtain ⟨Hr2, e2, s2, d⟩ := s'.keep
    have k' : v = .ref p := k
    subst k'
    exact hD.nx _ H' ⟨_, _, Hr2, hP, e.trans e2, s2, (hE.mono (e.trans e2)).set i (v := .ref p) (w := .d (.list acc)) d⟩
/-- a turn that changes nothing owned: f tells what an item gives -/
theorem lcd_pure {vs : List Nat} {PL : Addr → List PyData → Own → Prop} {ds : List PyData} (f : PyData → Option PyData) (hz : ds.length < sizeLine)
    (hb : ∀ (i : Nat) (d : PyData), ds[i]? = some d → ∃ τ2, TgOk X.K g vs d (wipeT τ vs) τ2 ∧ ∃ k : Bool, (k = false → f d = none) ∧ ∀ (p : Addr) (acc : List PyData) (s : Shared) (H : Hp) (C : Addr) (cl : List (Str × Addr)) (fp : List Addr),
      DTs (blk X scope s H C cl fp) τ2 ((p, .l acc) :: O) ifs (fun b O3 => b = k ∧ O3 = (p, .l acc) :: O) ∧
      (k = true → DE (blk X scope s H C cl fp) τ2 ((p, .l acc) :: O) elt fun w O4 => O4 = (p, .l acc) :: O ∧ ∃ y, w = .d y ∧ f d = some y))
    (he : ∀ p, PL p (ds.filterMap f) O) : LcD X τ O elt ifs scope vs g PL ds := by
  refine ⟨fun i acc O' => acc = (ds.take i).filterMap f ∧ O' = O, ⟨rfl, rfl⟩, fun i d acc O' hd ⟨ha, ho⟩ => ?_, fun acc O' p ⟨ha, ho⟩ => ?_⟩
  · subst ho
    obtain ⟨τ2, h1, k, hf, h2⟩ := hb i d hd
    have hi : i < ds.length := (List.getElem?_eq_some_iff.mp hd).1
    have hl : acc.length < sizeLine := by
      rw [ha]
      refine Nat.lt_of_le_of_lt (List.length_filterMap_le f _) (Nat.lt_of_le_of_lt (List.length_take_le' i ds) hz)
    have hn : (ds.take (i + 1)).filterMap f = (ds.take i).filterMap f ++ [d].filterMap f := by
      rw [List.take_succ, hd, List.filterMap_append]
      rfl
    refine ⟨τ2, h1, fun p => ⟨fun b O3 => b = k ∧ O3 = (p, .l acc) :: O', fun s H C cl fp => (h2 p acc s H C cl fp).1, ?_, ?_⟩⟩
    · intro s H C cl fp O3 ⟨hk, h3⟩
      subst h3
      exact ((h2 p acc s H C cl fp).2 hk.symm).mono fun w O4 ⟨q, y, hw, hy⟩ => ⟨y, O', hw, q, hl, by rw [hn, ha]; simp [hy], rfl⟩
    · intro O3 ⟨hk, h3⟩
      refine ⟨O', h3, ?_, rfl⟩
      rw [hn, ha]
      simp [hf hk.symm]
  · subst ho
    rw [ha, List.take_length]
    exact he p
end
end DL

set_option Elab.async false
set_option linter.all false
set_option maxRecDepth 100000
set_option maxHeartbeats 2000000
namespace DL
open PySem PySem.Spec PyProof.Rows L2

/-! ### defs -/
/-- what a def promises, at the level of data: pre tells of the arguments, of what is owned, and of what is wanted then -/
abbrev Pre := List W → Own → (W → Own → Prop) → Prop
def spD (K : PySem.W.Frag) (n : Nat) (pre : Pre) : Sp := fun vs H Q _ => ∃ (ws : List W) (O : Own) (Hr : Hp) (P : W → Own → Prop), Sep K Hr O H ∧ WOks K Hr vs ws ∧ ws.length = n ∧ pre ws O P ∧ ∀ v H', PO K Hr P v H' → Q v H'
theorem en_start {K : PySem.W.Frag} {Hr : Hp} {N : List Str} : ∀ {vs : List V} {ws : List W}, WOks K Hr vs ws → En K Hr (L2.start N vs) (ws.map some ++ List.replicate (N.length - ws.length) none) := by
  intro vs ws h
  have hl := h.len
  refine ⟨by unfold L2.start; simp [hl], fun i w q => ?_⟩
  unfold L2.start
  have at_ : ∀ {vs : List V} {ws : List W}, WOks K Hr vs ws → ∀ {i : Nat} {w : W}, ws[i]? = some w → ∃ v, vs[i]? = some v ∧ WOk K Hr v w := by
    intro vs ws h
    induction h with
    | nil => intro i w q; simp at q
    | cons a b ih =>
      intro i w q
      cases i with
      | zero => simp at q; subst q; exact ⟨_, rfl, a⟩
      | succ i => exact ih (i := i) (by simpa using q)
  by_cases hi : i < ws.length
  · rw [List.getElem?_append_left (by simpa using hi)] at q
    rw [List.getElem?_map] at q
    cases e : ws[i]? with
    | none =>
      rw [e] at q
      cases q
    | some u =>
      rw [e] at q
      cases q
      obtain ⟨v, hv, kv⟩ := at_ h e
      refine ⟨v, ?_, kv⟩
      rw [List.getElem?_append_left (by simp [hl, hi]), List.getElem?_map, hv]
      rfl
  · rw [List.getElem?_append_right (by simpa using hi)] at q
    rw [List.getElem?_replicate] at q
    split at q <;> cases q
section
variable {P : Program} {w : World} {K : PySem.W.Frag} {mg : Str → Option Value} {base : Heap}
/-- a def of the text keeps its promise, by its body -/
theorem fn_dl {x qual : Str} {st : Stmt} {f : Addr} {fd : FuncData} {N ps : List Str} {k : Nat} {pre : Pre} (F : Fun K x qual st f fd) (S : FnScope N ps (defScope st))
    (hbody : ∀ (cdv : Value) (A : Around) (outer : List Env) (s : Shared) (H : Hp) (E : XK), Room k (A.deeper (envOfC qual (defScope st) s.heap.objs.size f cdv)) → ∀ (ws : List W) (O : Own) (Q : W → Own → Prop), ws.length = ps.length → pre ws O Q →
      DSs (cxOf CX0 P w K mg base N qual (defScope st) f cdv A outer s H E).nox (ws.map some ++ List.replicate (N.length - ws.length) none) O (defBody st) { nx := fun _ O' => Q (.d .none) O', rt := Q }) :
    FnOk P w K mg base CX0 (k + 1) f fd ps (spD K ps.length pre) := by
  refine F.ok S (fun vs H Q E ⟨ws, O, Hr, P, _, hw, hl, _⟩ => hw.len.trans hl) (fun cdv A outer s H vs Q E hr ⟨ws, O, Hr, PP, hS, hw, hl, hp, hq⟩ => ⟨tss _ _, pss_tss, ?_⟩)
  exact hbody cdv A outer s H E hr ws O PP hl hp (L2.start N vs) Hr H _ (en_start hw) hS
    ⟨fun σ H' ⟨τ', O', Hr', p, e, s', k⟩ => hq _ _ ⟨_, O', Hr', p, e, s', .non⟩, hq, fun _ _ ⟨_, _, _, p, _⟩ => p.elim, fun _ _ ⟨_, _, _, p, _⟩ => p.elim⟩
/-- a def, as its callers know it -/
structure Def (P : Program) (w : World) (K : PySem.W.Frag) (mg : Str → Option Value) (base : Heap) (k : Nat) (x : Str) (n : Nat) (pre : Pre) : Prop where
  ex : ∃ (f : Addr) (fd : FuncData) (ps : List Str), FnOk P w K mg base CX0 k f fd ps (spD K n pre) ∧ mg x = some (.ref f) ∧ PySem.W.keepIn K (.ref f) = true ∧ Binds K fd ps []
theorem Def.imp {k : Nat} {x : Str} {n : Nat} {pre pre' : Pre} (d : Def P w K mg base k x n pre) (h : ∀ ws O Q, ws.length = n → pre' ws O Q → pre ws O Q) : Def P w K mg base k x n pre' := by
  obtain ⟨f, fd, ps, F, h1, h2, h3⟩ := d.ex
  exact ⟨f, fd, ps, F.imp fun vs H Q E ⟨ws, O, Hr, PP, hS, hw, hl, hp, hq⟩ => ⟨ws, O, Hr, PP, hS, hw, hl, h ws O PP hl hp, hq⟩, h1, h2, h3⟩
end
section
variable {X : Cx} {τ : Tau} {O : Own} {P : W → Own → Prop} {pos p : Pos} {x : Str} {e : Expr} {es : List Expr} {k n : Nat} {pre : Pre}
theorem de_call (F : Def X.prog X.w X.K X.mg X.base k x n pre) (hr : Room k X.A) (h : DA X τ O (e :: es) fun ws O1 => ws.length = n ∧ pre ws O1 P) (hg : Gl X x := by rfl) (hdb : (x == ("__debug__" : Str)) = false := by decide)
    (he : starEach (e :: es) X.env = (false, eval e X.env) :: starEach es X.env := by rfl) (hpl : (backTo pos (starEach es X.env)).any (·.1) = false := by rfl) : DE X τ O (.Call (.Name x p) (e :: es) [] pos) P := by
  refine ⟨?_⟩
  intro σ Hr H Q hE hS hQ pins s I
  obtain ⟨f, fd, ps, F, hm, hk, hb⟩ := F.ex
  refine (pe_call F hr hg hm hk hb .nil (pass0 (X := X)) pa_ta hdb he hpl).run pins s σ H Q I ?_
  refine h σ Hr H _ hE hS fun vs H1 ⟨ws, O1, Hr1, ⟨hl, hp⟩, e1, s1, k1⟩ => ?_
  exact ⟨ws, O1, Hr1, P, s1, by rw [List.append_nil]; exact k1, hl, hp, fun v H' q => hQ v H' (po_to e1 q)⟩
theorem de_call0 (F : Def X.prog X.w X.K X.mg X.base k x 0 pre) (hr : Room k X.A) (h : pre [] O P) (hg : Gl X x := by rfl) (hdb : (x == ("__debug__" : Str)) = false := by decide) : DE X τ O (.Call (.Name x p) [] [] pos) P := by
  refine ⟨?_⟩
  intro σ Hr H Q hE hS hQ pins s I
  obtain ⟨f, fd, ps, F, hm, hk, hb⟩ := F.ex
  refine (pe_call0 F hr hg hm hk hb .nil (pass0 (X := X)) hdb).run pins s σ H Q I ?_
  exact ⟨[], O, Hr, P, hS, .nil, rfl, h, hQ⟩
end

/-! ### zip, enumerate, to a written tuple of names -/
section
variable {X : Cx} {τ : Tau} {O : Own} {R : List PyData → Own → Prop}
def zipD (xs ys : List PyData) : List PyData := List.zipWith (fun a b => .tuple [a, b]) xs ys
def enumD (xs : List PyData) : List PyData := (List.range xs.length).map fun i => .tuple [.int (i : Nat), xs.getD i .none]
theorem gives_pair {K : PySem.W.Frag} {Hr H H' : Hp} {xs ys : Nat → Option V} {ds : List PyData} {i : Nat} {v : V} (y : YPair xs ys i H v H')
    (h : ∀ a b, xs i = some a → ys i = some b → ∃ d e, ds[i]? = some (.tuple [d, e]) ∧ Dv K Hr a d ∧ Dv K Hr b e) : Gives K Hr ds i H v H' := by
  obtain ⟨T, a, b, h1, h2, h3, h4, h5⟩ := y
  obtain ⟨d, e, hd, ka, kb⟩ := h a b h4 h5
  exact ⟨_, hd, .inr ⟨T, [a, b], [d, e], h1, h2, h3, rfl, .cons ka (.cons kb .nil)⟩⟩
theorem it_enum {e : Expr} {elts : List Expr} {kk : Nat} {p pos tpos : Pos} (hm : X.mg "enumerate" = none) (h : DE X τ O e fun w O1 => ∃ ds, w = .d (.list ds) ∧ R (enumD ds) O1) (hg : Gl X "enumerate" := by rfl)
    (hs : starEach [e] X.env = [(false, eval e X.env)] := by rfl) : IterD X (.Tuple elts kk tpos) (.Call (.Name "enumerate" p) [e] [] pos) τ O R := by
  refine ⟨?_⟩
  intro σ Hr H Rr hE hS hR pins s I
  refine (pi_enum hg hm pa_ta hs).run pins s σ H Rr I ?_
  refine (da_cons (PA := fun ws O1 => ∃ ds, ws = [.d (.list ds)] ∧ R (enumD ds) O1) (h.mono fun w O' ⟨n, e, h1⟩ => da_nil ⟨n, by rw [e], h1⟩) (by rw [hs]; rfl)) σ Hr H _ hE hS fun vs H1 ⟨ws, O1, Hr1, ⟨ds, hw, hr⟩, e1, s1, k1⟩ => ?_
  subst hw
  cases k1 with
  | cons k2 k3 =>
    cases k3
    cases k2 with
    | lst ha da =>
      refine ⟨_, _, rfl, SqL.of (s1.ex _ _ ha), hR _ H1 _ O1 Hr1 hr e1 s1 ?_⟩
      unfold ItOk
      have el : (enumD ds).length = ds.length := by simp [enumD]
      rw [el, ← da.len]
      exact (walk_enum (K := X.K)).mono (fun H g => SqL.of (g _ _ ha)) fun i H x H' hi g y => gives_pair y fun a b h1 h2 => by
        cases h1
        obtain ⟨d, hd, kd⟩ := da.getV h2
        refine ⟨.int (i : Nat), d, ?_, .int _, kd⟩
        have hi' : i < ds.length := by rw [← da.len]; exact hi
        unfold enumD
        rw [List.getElem?_map, List.getElem?_range hi']
        simp [List.getD, hd]
theorem it_zipL {a b : Expr} {elts : List Expr} {kk : Nat} {p pos tpos : Pos} (hm : X.mg "zip" = none)
    (h : DE X τ O a fun w O1 => DE X τ O1 b fun w2 O2 => ∃ xs ys, w = .d (.list xs) ∧ w2 = .d (.list ys) ∧ R (zipD xs ys) O2) (hg : Gl X "zip" := by rfl)
    (hs : starEach [a, b] X.env = (false, eval a X.env) :: starEach [b] X.env := by rfl) (hs2 : starEach [b] X.env = (false, eval b X.env) :: starEach [] X.env := by rfl) (hpl : (backTo pos (starEach [b] X.env)).any (·.1) = false := by rfl) :
    IterD X (.Tuple elts kk tpos) (.Call (.Name "zip" p) [a, b] [] pos) τ O R := by
  refine ⟨?_⟩
  intro σ Hr H Rr hE hS hR pins s I
  refine (RZ.pi_zipA hg hm pa_ta hs hpl).run pins s σ H Rr I ?_
  refine (da_cons (PA := fun ws O1 => ∃ xs ys, ws = [.d (.list xs), .d (.list ys)] ∧ R (zipD xs ys) O1) (h.mono fun w O' h' => da_cons (h'.mono fun w2 O2 ⟨xs, ys, e1, e2, h1⟩ => da_nil ⟨xs, ys, by rw [e1, e2], h1⟩) hs2) hs) σ Hr H _ hE hS fun vs H1 ⟨ws, O1, Hr1, ⟨xs, ys, hw, hr⟩, e1, s1, k1⟩ => ?_
  subst hw
  cases k1 with
  | cons k2 k3 =>
    cases k3 with
    | cons k4 k5 =>
      cases k5
      cases k2 with
      | lst ha da =>
        cases k4 with
        | lst hb db =>
          refine ⟨_, _, _, _, rfl, .inl ⟨SqL.of (s1.ex _ _ ha), SqL.of (s1.ex _ _ hb), hR _ H1 _ O1 Hr1 hr e1 s1 ?_⟩⟩
          unfold ItOk
          have el : (zipD xs ys).length = min xs.length ys.length := by simp [zipD]
          rw [el]
          exact (walk_zip (K := X.K) (by rw [da.len, db.len])).mono (fun H g => ⟨SqL.of (g _ _ ha), SqL.of (g _ _ hb)⟩) fun i H x H' hi g y => gives_pair y fun a b h1 h2 => by
            obtain ⟨d, hd, kd⟩ := da.getV h1
            obtain ⟨e, he, ke⟩ := db.getV h2
            refine ⟨d, e, ?_, kd, ke⟩
            unfold zipD
            rw [List.getElem?_zipWith, hd, he]
theorem walk_zipT {K : PySem.W.Frag} {a b : Addr} {xs ys : List V} {n : Nat} (hn : n = min xs.length ys.length) : Walk (RZ.ItzT K a b) n (fun H => SqT K H a xs ∧ SqT K H b ys) (YPair (fun i => xs[i]?) (fun i => ys[i]?)) := by
  subst hn
  refine ⟨fun i _ hi q => ?_, fun _ q => ⟨xs, ys, q.1, q.2, by omega⟩, fun i H v H' _ q y => ?_⟩
  · have h1 : i < xs.length := by omega
    have h2 : i < ys.length := by omega
    exact ⟨xs, ys, xs[i], ys[i], q.1, q.2, by simp [h1], by simp [h2]⟩
  · obtain ⟨T, x, z, h1, h2, h3, h4, h5⟩ := y
    exact ⟨T, x, z, h1, h2, h3, h4 xs q.1, h5 ys q.2⟩
theorem it_zipT {a b : Expr} {elts : List Expr} {kk : Nat} {p pos tpos : Pos} (hm : X.mg "zip" = none)
    (h : DE X τ O a fun w O1 => DE X τ O1 b fun w2 O2 => ∃ xs ys, w = .d (.tuple xs) ∧ w2 = .d (.tuple ys) ∧ R (zipD xs ys) O2) (hg : Gl X "zip" := by rfl)
    (hs : starEach [a, b] X.env = (false, eval a X.env) :: starEach [b] X.env := by rfl) (hs2 : starEach [b] X.env = (false, eval b X.env) :: starEach [] X.env := by rfl) (hpl : (backTo pos (starEach [b] X.env)).any (·.1) = false := by rfl) :
    IterD X (.Tuple elts kk tpos) (.Call (.Name "zip" p) [a, b] [] pos) τ O R := by
  refine ⟨?_⟩
  intro σ Hr H Rr hE hS hR pins s I
  refine (RZ.pi_zipA hg hm pa_ta hs hpl).run pins s σ H Rr I ?_
  refine (da_cons (PA := fun ws O1 => ∃ xs ys, ws = [.d (.tuple xs), .d (.tuple ys)] ∧ R (zipD xs ys) O1) (h.mono fun w O' h' => da_cons (h'.mono fun w2 O2 ⟨xs, ys, e1, e2, h1⟩ => da_nil ⟨xs, ys, by rw [e1, e2], h1⟩) hs2) hs) σ Hr H _ hE hS fun vs H1 ⟨ws, O1, Hr1, ⟨xs, ys, hw, hr⟩, e1, s1, k1⟩ => ?_
  subst hw
  cases k1 with
  | cons k2 k3 =>
    cases k3 with
    | cons k4 k5 =>
      cases k5
      cases k2 with
      | tup ha da =>
        cases k4 with
        | tup hb db =>
          refine ⟨_, _, _, _, rfl, .inr ⟨same_t s1.ex ha, same_t s1.ex hb, hR _ H1 _ O1 Hr1 hr e1 s1 ?_⟩⟩
          unfold ItOk
          have el : (zipD xs ys).length = min xs.length ys.length := by simp [zipD]
          rw [el]
          exact (walk_zipT (K := X.K) (by rw [da.len, db.len])).mono (fun H g => ⟨same_t g ha, same_t g hb⟩) fun i H x H' hi g y => gives_pair y fun a b h1 h2 => by
            obtain ⟨d, hd, kd⟩ := da.getV h1
            obtain ⟨e, he, ke⟩ := db.getV h2
            refine ⟨d, e, ?_, kd, ke⟩
            unfold zipD
            rw [List.getElem?_zipWith, hd, he]
end
end DL

set_option Elab.async false
set_option linter.all false
set_option maxRecDepth 100000
set_option maxHeartbeats 2000000
namespace DL
open PySem PySem.Spec PyProof.Rows L2
/-! ### small steps of the tactics -/
theorem tb_i {P : Bool → Own → Prop} {k : Bool} {O : Own} (h : P k O) : tb P (.d (.bool k)) O := h
theorem toI_i {P : Option Int → Own → Prop} {k : Int} {O : Own} (h : P (some k) O) : toI P (.d (.int k)) O := h
theorem if_t {k : Bool} {A B : Prop} (e : k = true) (h : A) : if k = true then A else B := by rw [if_pos e]; exact h
theorem if_f {k : Bool} {A B : Prop} (e : k = false) (h : B) : if k = true then A else B := by rw [if_neg (by rw [e]; exact Bool.false_ne_true)]; exact h
theorem if_2 {k : Bool} {A B : Prop} (h1 : k = true → A) (h2 : k = false → B) : if k = true then A else B := by
  cases k with
  | true => exact h1 rfl
  | false => exact h2 rfl
theorem sz0 {n : Nat} (h : n ≤ 100000) : n ≤ sizeLine := Nat.le_trans h (by decide)
theorem sz1 {n : Nat} (h : n < 100000) : n < sizeLine := Nat.lt_of_lt_of_le h (by decide)
theorem call_pre {n : Nat} {ws : List W} {A : Prop} (h : ws.length = n) (a : A) : ws.length = n ∧ A := ⟨h, a⟩
/-- a test cut: its answer told once -/
theorem dt_cut {X : Cx} {τ : Tau} {O : Own} {PB : Bool → Own → Prop} {c : Expr} (kv : Bool) (h : DT X τ O c fun k O' => k = kv ∧ O' = O) (h2 : PB kv O) : DT X τ O c PB := h.mono fun w O' ⟨a, b⟩ => by rw [a, b]; exact h2
theorem de_cut {X : Cx} {τ : Tau} {O : Own} {P : W → Own → Prop} {c : Expr} (w : W) (h : DE X τ O c fun k O' => k = w ∧ O' = O) (h2 : P w O) : DE X τ O c P := h.mono fun w O' ⟨a, b⟩ => by rw [a, b]; exact h2
/-- the statement if, its test cut -/
theorem ds_ifc {X : Cx} {τ : Tau} {O : Own} {D : DEn} {c : Expr} {body body2 : List Stmt} {pos : Pos} (kv : Bool) (h : DT X τ O c fun k O' => k = kv ∧ O' = O) (h1 : kv = true → DSs X τ O body D) (h2 : kv = false → DSs X τ O body2 D) : DS X τ O (.If c body body2 pos) D :=
  ds_if (dt_cut kv h (if_2 h1 h2))
theorem big_in {n : Nat} (a b : Int) (h : a ≤ b ∧ b ≤ a) : a = b := by omega
end DL
namespace DL
open PySem PySem.Spec PyProof.Rows L2
def pf1 (C : PyData → Prop) (g : PyData → PyData) : Pre := fun ws O P => ∃ d, ws = [.d d] ∧ C d ∧ P (.d (g d)) O
def pf2 (C : PyData → PyData → Prop) (g : PyData → PyData → PyData) : Pre := fun ws O P => ∃ d e, ws = [.d d, .d e] ∧ C d e ∧ P (.d (g d e)) O
def pf3 (C : PyData → PyData → PyData → Prop) (g : PyData → PyData → PyData → PyData) : Pre := fun ws O P => ∃ d e f, ws = [.d d, .d e, .d f] ∧ C d e f ∧ P (.d (g d e f)) O
theorem pf1_i {C : PyData → Prop} {g : PyData → PyData} {d : PyData} {O : Own} {P : W → Own → Prop} (c : C d) (h : P (.d (g d)) O) : pf1 C g [.d d] O P := ⟨d, rfl, c, h⟩
theorem pf2_i {C : PyData → PyData → Prop} {g : PyData → PyData → PyData} {d e : PyData} {O : Own} {P : W → Own → Prop} (c : C d e) (h : P (.d (g d e)) O) : pf2 C g [.d d, .d e] O P := ⟨d, e, rfl, c, h⟩
theorem pf3_i {C : PyData → PyData → PyData → Prop} {g : PyData → PyData → PyData → PyData} {d e f : PyData} {O : Own} {P : W → Own → Prop} (c : C d e f) (h : P (.d (g d e f)) O) : pf3 C g [.d d, .d e, .d f] O P := ⟨d, e, f, rfl, c, h⟩
abbrev tr1 : PyData → Prop := fun _ => True
abbrev tr2 : PyData → PyData → Prop := fun _ _ => True
end DL

set_option Elab.async false
set_option linter.all false
set_option maxRecDepth 100000
set_option maxHeartbeats 2000000
/-! a zip of two tuples whose pairs go to one name: the pair is held, or it is not, at the next turn -/
namespace DZ
open PySem PySem.Spec PyProof.Rows L2 DL
/-- the zip at z, whatever it gave out -/
def ZipAt (h : Heap) (z TI TO : Addr) : Prop := ∃ (f0 : Value) (f : Bool), (f0 = .none ∨ ∃ T : Addr, f0 = rawInt T) ∧
  h.get? z = some { cls := .type "zip", dict := none, data := .fields #[f0, .bool f, .bool false, .ref TI, .ref TO], slots := #[] }
section
variable {prog : Program} {w : World} {A : Around} {E : Value → Shared → Prop} {s : Shared} {z TI TO i1 i2 l1 l2 : Addr} {k1 k2 : Nat} {xs ys : Array Value} {x y a b : Value}
theorem lone {a : Addr} {Q : Option Obj → Shared → Prop} (h : Q (s.heap.get? a) s) : wpAny (model prog w) A (loadIfAlive a) Q E s := fun _ _ _ => h
/-- is the pair free: yes, or no; the zip is one still -/
theorem isFree {Q : Bool → Shared → Prop} (hz : ZipAt s.heap z TI TO) (h : ∀ k h', ZipAt h' z TI TO → Heap.SameBut z s.heap h' → Q k { s with heap := h' }) :
    wpAny (model prog w) A (Builtin.SmallTypes.ownedTupleIsFree (.ref z)) Q E s := by
  obtain ⟨f0, f, hf, g⟩ := hz
  unfold Builtin.SmallTypes.ownedTupleIsFree
  refine wpAny_bind (wpAny_field g rfl (x := f0) rfl ?_)
  rcases hf with rfl | ⟨T, rfl⟩
  · exact wpAny_pure (h true s.heap ⟨_, f, .inl rfl, g⟩ (Heap.SameBut.refl _ _))
  · refine wpAny_bind (lone ?_)
    cases e : s.heap.get? (T : Int).toNat with
    | none => exact wpAny_pure (h true s.heap ⟨_, f, .inr ⟨T, rfl⟩, g⟩ (Heap.SameBut.refl _ _))
    | some oT =>
      simp only [Option.isNone_some, Bool.false_eq_true, if_false]
      refine wpAny_bind (wpAny_field g rfl (x := .bool f) rfl ?_)
      cases f with
      | true => exact wpAny_pure (h false s.heap ⟨_, true, .inr ⟨T, rfl⟩, g⟩ (Heap.SameBut.refl _ _))
      | false => exact wpAny_bind (wpAny_setField_rec g (by simp) fun h₁ g₁ s₁ => wpAny_pure (h false h₁ ⟨_, true, .inr ⟨T, rfl⟩, g₁⟩ s₁))
theorem next_item {Q : Value → Shared → Prop} (D : ZipApart z TI TO i1 i2 l1 l2)
    (hz : ZipAt s.heap z TI TO) (hTI : IsPair s.heap TI (.ref i1) (.ref i2)) (hTO : IsPair s.heap TO a b)
    (h1 : s.heap.IsTupleIter i1 l1 k1) (h2 : s.heap.IsTupleIter i2 l2 k2) (hl1 : s.heap.IsTuple l1 xs) (hl2 : s.heap.IsTuple l2 ys) (hx : xs[k1]? = some x) (hy : ys[k2]? = some y)
    (hQ : ∀ h', ZipAt h' z TI TO → (∃ a b, IsPair h' TO a b) → h'.IsTupleIter i1 l1 (k1 + 1) → h'.IsTupleIter i2 l2 (k2 + 1) → IsPair h' s.heap.objs.size x y → h'.objs.size = s.heap.objs.size + 1 →
      (∀ c o, c ≠ z → c ≠ TO → c ≠ i1 → c ≠ i2 → s.heap.get? c = some o → h'.get? c = some o) → Q (.ref s.heap.objs.size) { s with heap := h' }) :
    wpAny (model prog w) A (Builtin.«zip.__next__» ⟨[.ref z], []⟩) (fun fin s' => ∃ v, fin = .done (.ret v) ∧ Q v s') E s := by
  obtain ⟨f0, f, hf, g⟩ := id hz
  show wpAny _ _ (field (.ref z) 2 >>= _) _ _ _
  refine wpAny_bind (wpAny_field g rfl (x := .bool false) rfl ?_)
  show wpAny _ _ (field (.ref z) 3 >>= _) _ _ _
  refine wpAny_bind (wpAny_field g rfl (x := .ref TI) rfl (wpAny_bind (wpAny_seqItems hTI rfl ?_)))
  show wpAny _ _ (Builtin.SmallTypes.ownedTupleIsFree (.ref z) >>= _) _ _ _
  refine wpAny_bind (isFree hz fun k h₀ hz₀ s₀ => ?_)
  have j1 := h1.extBut s₀.extBut D.i1z
  have j2 := h2.extBut s₀.extBut D.i2z
  have t1 := hl1.extBut s₀.extBut D.l1z
  have t2 := hl2.extBut s₀.extBut D.l2z
  have pO : IsPair h₀ TO a b := s₀.extBut _ _ D.TOz hTO
  cases k with
  | true =>
    obtain ⟨f0, f, hf, g₀⟩ := hz₀
    simp only [if_true]
    refine wpAny_bind (wpAny_rule (wpAny_bind (wpAny_field g₀ rfl (x := .ref TO) rfl (wpAny_bind (wpAny_setField_rec g₀ (by simp) fun h₁ g₁ s₁ => ?_)))))
    refine wpAny_bind ?_
    simp only [List.zipIdx_cons, List.zipIdx_nil, List.forIn_cons, List.forIn_nil]
    refine wpAny_bind (wpAny_bind (wpAny_onRaise ?_))
    show wpAny _ _ (Builtin.SmallTypes.nextOf (.ref i1) >>= _) _ _ _
    refine wpAny_bind (RZ.nextOf_tuple_item (j1.extBut s₁.extBut D.i1z) (t1.extBut s₁.extBut D.l1z) hx fun h₂ e₂ s₂ => wpAny_pure ?_)
    have pO₂ : IsPair h₂ TO a b := s₂.extBut _ _ D.TOi1 (s₁.extBut _ _ D.TOz pO)
    refine wpAny_bind (wpAny_seqItems pO₂ rfl (wpAny_bind (wpAny_updateSeq_pair pO₂ fun h₃ pO₃ s₃ => wpAny_bind (wpAny_letGo (wpAny_pure ?_)))))
    replace pO₃ : IsPair h₃ TO x b := pO₃
    refine wpAny_bind (wpAny_bind (wpAny_onRaise ?_))
    show wpAny _ _ (Builtin.SmallTypes.nextOf (.ref i2) >>= _) _ _ _
    refine wpAny_bind (RZ.nextOf_tuple_item (((j2.extBut s₁.extBut D.i2z).extBut s₂.extBut D.i12.symm).extBut s₃.extBut D.TOi2.symm)
      (((t2.extBut s₁.extBut D.l2z).extBut s₂.extBut D.l2i1).extBut s₃.extBut D.l2TO) hy fun h₄ e₄ s₄ => wpAny_pure ?_)
    have pO₄ : IsPair h₄ TO x b := s₄.extBut _ _ D.TOi2 pO₃
    refine wpAny_bind (wpAny_seqItems pO₄ rfl (wpAny_bind (wpAny_updateSeq_pair pO₄ fun h₅ pO₅ s₅ => wpAny_bind (wpAny_letGo (wpAny_pure (wpAny_pure ?_))))))
    replace pO₅ : IsPair h₅ TO x y := pO₅
    refine wpAny_bind (wpAny_seqItems pO₅ rfl (wpAny_bind (wpAny_newTuple ?_)))
    have sz : h₅.objs.size = s.heap.objs.size := by rw [s₅.1, s₄.1, s₃.1, s₂.1, s₁.1, s₀.1]
    have far : ∀ c o, c ≠ z → c ≠ TO → c ≠ i1 → c ≠ i2 → s.heap.get? c = some o → h₅.get? c = some o := fun c o c1 c2 c3 c4 e =>
      s₅.extBut _ _ c2 (s₄.extBut _ _ c4 (s₃.extBut _ _ c2 (s₂.extBut _ _ c3 (s₁.extBut _ _ c1 (s₀.extBut _ _ c1 e)))))
    have g₅ := s₅.extBut _ _ D.TOz.symm (s₄.extBut _ _ D.i2z.symm (s₃.extBut _ _ D.TOz.symm (s₂.extBut _ _ D.i1z.symm g₁)))
    have it₁ : h₅.IsTupleIter i1 l1 (k1 + 1) := ((e₂.extBut s₃.extBut D.TOi1.symm).extBut s₄.extBut D.i12).extBut s₅.extBut D.TOi1.symm
    have it₂ : h₅.IsTupleIter i2 l2 (k2 + 1) := e₄.extBut s₅.extBut D.TOi2.symm
    have zl : z < h₅.objs.size := Heap.lt_size g₅
    show wpAny _ _ (Builtin.SmallTypes.ownedTupleHandOut (.ref z) (.ref h₅.objs.size) >>= _) _ _ _
    refine wpAny_bind ?_
    unfold Builtin.SmallTypes.ownedTupleHandOut
    refine wpAny_bind (wpAny_setField_rec (Heap.get?_push_of_some _ g₅) (by simp) fun h₇ g₇ s₇ => wpAny_setField_rec g₇ (by simp) fun h₈ g₈ s₈ => wpAny_pure ⟨_, rfl, ?_⟩)
    have up : ∀ c o, c ≠ z → h₅.get? c = some o → h₈.get? c = some o := fun c o c1 e => s₈.extBut _ _ c1 (s₇.extBut _ _ c1 (Heap.get?_push_of_some _ e))
    have new : IsPair h₈ h₅.objs.size x y := s₈.extBut _ _ (Nat.ne_of_gt zl) (s₇.extBut _ _ (Nat.ne_of_gt zl) (Heap.get?_push_size _ rfl))
    have sz₈ : h₈.objs.size = h₅.objs.size + 1 := by rw [s₈.1, s₇.1, Heap.size_push]
    show Q (.ref h₅.objs.size) _
    rw [sz] at new sz₈ ⊢
    exact hQ h₈ ⟨_, false, .inr ⟨_, rfl⟩, g₈⟩ ⟨x, y, up _ _ D.TOz pO₅⟩ (it₁.at fun o e => up _ o D.i1z e) (it₂.at fun o e => up _ o D.i2z e) new sz₈ fun c o c1 c2 c3 c4 e => up c o c1 (far c o c1 c2 c3 c4 e)
  | false =>
    simp only [Bool.false_eq_true, if_false]
    refine wpAny_bind ?_
    rw [← Array.forIn_toList]
    simp only [List.forIn_cons, List.forIn_nil]
    refine wpAny_bind (wpAny_bind (wpAny_holding ?_))
    show wpAny _ _ (Builtin.SmallTypes.nextOf (.ref i1) >>= _) _ _ _
    refine wpAny_bind (RZ.nextOf_tuple_item (s := { s with heap := h₀ }) j1 t1 hx fun h₂ e₂ s₂ => wpAny_pure (wpAny_pure ?_))
    refine wpAny_bind (wpAny_bind (wpAny_holding ?_))
    show wpAny _ _ (Builtin.SmallTypes.nextOf (.ref i2) >>= _) _ _ _
    refine wpAny_bind (RZ.nextOf_tuple_item (s := { s with heap := h₂ }) (j2.extBut s₂.extBut D.i12.symm) (t2.extBut s₂.extBut D.l2i1) hy fun h₃ e₃ s₃ => wpAny_pure (wpAny_pure (wpAny_pure ?_)))
    show wpAny _ _ (newTuple [x, y] >>= _) _ _ _
    refine wpAny_bind (wpAny_newTuple (wpAny_pure ⟨_, rfl, ?_⟩))
    have sz : h₃.objs.size = s.heap.objs.size := by rw [s₃.1, s₂.1, s₀.1]
    obtain ⟨f0, f, hf, g₀⟩ := hz₀
    have g₃ := s₃.extBut _ _ D.i2z.symm (s₂.extBut _ _ D.i1z.symm g₀)
    have pO₃ : IsPair h₃ TO a b := s₃.extBut _ _ D.TOi2 (s₂.extBut _ _ D.TOi1 pO)
    have far : ∀ c o, c ≠ z → c ≠ TO → c ≠ i1 → c ≠ i2 → s.heap.get? c = some o → h₃.get? c = some o := fun c o c1 c2 c3 c4 e => s₃.extBut _ _ c4 (s₂.extBut _ _ c3 (s₀.extBut _ _ c1 e))
    have it₁ : h₃.IsTupleIter i1 l1 (k1 + 1) := e₂.extBut s₃.extBut D.i12
    have new : IsPair (h₃.push { cls := .type "tuple", data := .seq #[x, y] }) h₃.objs.size x y := Heap.get?_push_size _ rfl
    have sz₄ : (h₃.push { cls := .type "tuple", data := .seq #[x, y] }).objs.size = h₃.objs.size + 1 := Heap.size_push ..
    show Q (.ref h₃.objs.size) _
    rw [sz] at new sz₄ ⊢
    exact hQ _ ⟨f0, f, hf, Heap.get?_push_of_some _ g₃⟩ ⟨a, b, Heap.get?_push_of_some _ pO₃⟩ (it₁.at fun o e => Heap.get?_push_of_some _ e) (e₃.at fun o e => Heap.get?_push_of_some _ e) new sz₄ fun c o c1 c2 c3 c4 e => Heap.get?_push_of_some _ (far c o c1 c2 c3 c4 e)
theorem next_end {Q : Fin → Shared → Prop} (hh : A.handled = none) (D : ZipApart z TI TO i1 i2 l1 l2)
    (hz : ZipAt s.heap z TI TO) (hTI : IsPair s.heap TI (.ref i1) (.ref i2)) (hTO : IsPair s.heap TO a b)
    (h1 : s.heap.IsTupleIter i1 l1 k1) (h2 : s.heap.IsTupleIter i2 l2 k2) (hl1 : s.heap.IsTuple l1 xs) (hl2 : s.heap.IsTuple l2 ys) (hend : xs[k1]? = none ∨ ys[k2]? = none)
    (hE : ∀ h' e, (∀ c o, c ≠ z → c ≠ TO → c ≠ i1 → c ≠ i2 → s.heap.get? c = some o → h'.get? c = some o) → (∃ o, h'.get? e = some o ∧ o.cls = .type "StopIteration") → E (.ref e) { s with heap := h' }) :
    wpAny (model prog w) A (Builtin.«zip.__next__» ⟨[.ref z], []⟩) Q E s := by
  obtain ⟨f0, f, hf, g⟩ := id hz
  show wpAny _ _ (field (.ref z) 2 >>= _) _ _ _
  refine wpAny_bind (wpAny_field g rfl (x := .bool false) rfl ?_)
  show wpAny _ _ (field (.ref z) 3 >>= _) _ _ _
  refine wpAny_bind (wpAny_field g rfl (x := .ref TI) rfl (wpAny_bind (wpAny_seqItems hTI rfl ?_)))
  show wpAny _ _ (Builtin.SmallTypes.ownedTupleIsFree (.ref z) >>= _) _ _ _
  refine wpAny_bind (isFree hz fun k h₀ hz₀ s₀ => ?_)
  have j1 := h1.extBut s₀.extBut D.i1z
  have j2 := h2.extBut s₀.extBut D.i2z
  have t1 := hl1.extBut s₀.extBut D.l1z
  have t2 := hl2.extBut s₀.extBut D.l2z
  have pO : IsPair h₀ TO a b := s₀.extBut _ _ D.TOz hTO
  cases k with
  | true =>
    obtain ⟨f0, f, hf, g₀⟩ := hz₀
    simp only [if_true]
    refine wpAny_bind (wpAny_rule (wpAny_bind (wpAny_field g₀ rfl (x := .ref TO) rfl (wpAny_bind (wpAny_setField_rec g₀ (by simp) fun h₁ g₁ s₁ => ?_)))))
    refine wpAny_bind ?_
    simp only [List.zipIdx_cons, List.zipIdx_nil, List.forIn_cons, List.forIn_nil]
    refine wpAny_bind (wpAny_bind (wpAny_onRaise ?_))
    show wpAny _ _ (Builtin.SmallTypes.nextOf (.ref i1) >>= _) _ _ _
    cases hx : xs[k1]? with
    | none =>
      refine wpAny_bind (RZ.nextOf_tuple_end hh (j1.extBut s₁.extBut D.i1z) (t1.extBut s₁.extBut D.l1z) hx fun h₂ e s₂ he => ?_)
      obtain ⟨oe, hoe, hce⟩ := he
      have g₂ := s₂ _ _ D.i1z.symm g₁
      have hez : e ≠ z := fun q => by subst q; rw [g₂] at hoe; cases hoe; simp at hce
      exact wpAny_setField_rec g₂ (by simp) fun h₃ _ s₃ => hE h₃ e (fun c o c1 _ c3 _ q => s₃.extBut _ _ c1 (s₂ _ _ c3 (s₁.extBut _ _ c1 (s₀.extBut _ _ c1 q)))) ⟨oe, s₃.extBut _ _ hez hoe, hce⟩
    | some x =>
      have hy : ys[k2]? = none := by
        rcases hend with q | q
        · rw [hx] at q; cases q
        · exact q
      refine wpAny_bind (RZ.nextOf_tuple_item (j1.extBut s₁.extBut D.i1z) (t1.extBut s₁.extBut D.l1z) hx fun h₂ e₂ s₂ => wpAny_pure ?_)
      have pO₂ : IsPair h₂ TO a b := s₂.extBut _ _ D.TOi1 (s₁.extBut _ _ D.TOz pO)
      refine wpAny_bind (wpAny_seqItems pO₂ rfl (wpAny_bind (wpAny_updateSeq_pair pO₂ fun h₃ pO₃ s₃ => wpAny_bind (wpAny_letGo (wpAny_pure ?_)))))
      refine wpAny_bind (wpAny_bind (wpAny_onRaise ?_))
      show wpAny _ _ (Builtin.SmallTypes.nextOf (.ref i2) >>= _) _ _ _
      refine wpAny_bind (RZ.nextOf_tuple_end hh (((j2.extBut s₁.extBut D.i2z).extBut s₂.extBut D.i12.symm).extBut s₃.extBut D.TOi2.symm)
        (((t2.extBut s₁.extBut D.l2z).extBut s₂.extBut D.l2i1).extBut s₃.extBut D.l2TO) hy fun h₄ e s₄ he => ?_)
      obtain ⟨oe, hoe, hce⟩ := he
      have g₄ := s₄ _ _ D.i2z.symm (s₃.extBut _ _ D.TOz.symm (s₂.extBut _ _ D.i1z.symm g₁))
      have hez : e ≠ z := fun q => by subst q; rw [g₄] at hoe; cases hoe; simp at hce
      exact wpAny_setField_rec g₄ (by simp) fun h₅ _ s₅ => hE h₅ e (fun c o c1 c2 c3 c4 q => s₅.extBut _ _ c1 (s₄ _ _ c4 (s₃.extBut _ _ c2 (s₂.extBut _ _ c3 (s₁.extBut _ _ c1 (s₀.extBut _ _ c1 q)))))) ⟨oe, s₅.extBut _ _ hez hoe, hce⟩
  | false =>
    simp only [Bool.false_eq_true, if_false]
    refine wpAny_bind ?_
    rw [← Array.forIn_toList]
    simp only [List.forIn_cons, List.forIn_nil]
    refine wpAny_bind (wpAny_bind (wpAny_holding ?_))
    show wpAny _ _ (Builtin.SmallTypes.nextOf (.ref i1) >>= _) _ _ _
    cases hx : xs[k1]? with
    | none =>
      exact wpAny_bind (RZ.nextOf_tuple_end (s := { s with heap := h₀ }) hh j1 t1 hx fun h₂ e s₂ he => hE h₂ e (fun c o c1 _ c3 _ q => s₂ _ _ c3 (s₀.extBut _ _ c1 q)) he)
    | some x =>
      have hy : ys[k2]? = none := by
        rcases hend with q | q
        · rw [hx] at q; cases q
        · exact q
      refine wpAny_bind (RZ.nextOf_tuple_item (s := { s with heap := h₀ }) j1 t1 hx fun h₂ e₂ s₂ => wpAny_pure (wpAny_pure ?_))
      refine wpAny_bind (wpAny_bind (wpAny_holding ?_))
      show wpAny _ _ (Builtin.SmallTypes.nextOf (.ref i2) >>= _) _ _ _
      exact wpAny_bind (RZ.nextOf_tuple_end (s := { s with heap := h₂ }) hh (j2.extBut s₂.extBut D.i12.symm) (t2.extBut s₂.extBut D.l2i1) hy fun h₃ e s₃ he => hE h₃ e (fun c o c1 _ c3 c4 q => s₃ _ _ c4 (s₂.extBut _ _ c3 (s₀.extBut _ _ c1 q))) he)
theorem ZipAt.ty (hz : ZipAt s.heap z TI TO) : s.TypeIs (.ref z) "zip" := by
  obtain ⟨f0, f, hf, g⟩ := hz
  exact ⟨_, g, rfl⟩
theorem pyNext_item {Q : Option Value → Shared → Prop} (D : ZipApart z TI TO i1 i2 l1 l2)
    (hz : ZipAt s.heap z TI TO) (hTI : IsPair s.heap TI (.ref i1) (.ref i2)) (hTO : IsPair s.heap TO a b)
    (h1 : s.heap.IsTupleIter i1 l1 k1) (h2 : s.heap.IsTupleIter i2 l2 k2) (hl1 : s.heap.IsTuple l1 xs) (hl2 : s.heap.IsTuple l2 ys) (hx : xs[k1]? = some x) (hy : ys[k2]? = some y)
    (hQ : ∀ h', ZipAt h' z TI TO → (∃ a b, IsPair h' TO a b) → h'.IsTupleIter i1 l1 (k1 + 1) → h'.IsTupleIter i2 l2 (k2 + 1) → IsPair h' s.heap.objs.size x y → h'.objs.size = s.heap.objs.size + 1 →
      (∀ c o, c ≠ z → c ≠ TO → c ≠ i1 → c ≠ i2 → s.heap.get? c = some o → h'.get? c = some o) → Q (some (.ref s.heap.objs.size)) { s with heap := h' }) :
    wpAny (model prog w) A (pyNext (.ref z)) Q E s := by
  unfold pyNext
  exact wpAny_bind (wpAny_attempt (wpAny_callSpecial?_slot (name := Str.ofString "__next__") hz.ty F.slot_zip_next
    (wpAny_call_entry F.slot_zip_next hz.ty F.entry_zip_next (next_item D hz hTI hTO h1 h2 hl1 hl2 hx hy fun h' a1 a2 a3 a4 a5 a6 a7 => wpAny_pure (hQ h' a1 a2 a3 a4 a5 a6 a7)) (F.args_zip_next_1 _))))
theorem pyNext_end {Q : Option Value → Shared → Prop} (hh : A.handled = none) (D : ZipApart z TI TO i1 i2 l1 l2)
    (hz : ZipAt s.heap z TI TO) (hTI : IsPair s.heap TI (.ref i1) (.ref i2)) (hTO : IsPair s.heap TO a b)
    (h1 : s.heap.IsTupleIter i1 l1 k1) (h2 : s.heap.IsTupleIter i2 l2 k2) (hl1 : s.heap.IsTuple l1 xs) (hl2 : s.heap.IsTuple l2 ys) (hend : xs[k1]? = none ∨ ys[k2]? = none)
    (hQ : ∀ h', (∀ c o, c ≠ z → c ≠ TO → c ≠ i1 → c ≠ i2 → s.heap.get? c = some o → h'.get? c = some o) → Q none { s with heap := h' }) : wpAny (model prog w) A (pyNext (.ref z)) Q E s := by
  unfold pyNext
  refine wpAny_bind (wpAny_attempt (wpAny_callSpecial?_slot (name := Str.ofString "__next__") hz.ty F.slot_zip_next
    (wpAny_call_entry F.slot_zip_next hz.ty F.entry_zip_next (next_end hh D hz hTI hTO h1 h2 hl1 hl2 hend fun h' e hk he => ?_) (F.args_zip_next_1 _))))
  obtain ⟨o, ho, hc⟩ := he
  exact wpAny_bind (wpAny_isInstance (T := "StopIteration") (b := true) ⟨o, ho, hc⟩ isSubtype_stop (wpAny_pure (hQ _ hk)))
theorem pyIter_zip {Q : Value → Shared → Prop} (hz : ZipAt s.heap z TI TO) (h : Q (.ref z) s) : wpAny (model prog w) A (pyIter (.ref z)) Q E s := by
  refine wpAny_pyIter_slot hz.ty F.slot_zip_iter (wpAny_call_entry F.slot_zip_iter hz.ty F.entry_zip_iter ?_ (F.args_zip_iter_1 _))
  show wpAny _ _ (ret (.ref z)) _ _ s
  exact wpAny_pure ⟨_, rfl, "zip", _, hz.ty, F.slot_zip_next.lookup, h⟩
end
/-- one pair a turn to a single name -/
theorem turn_z {P : Program} {w : World} {K : PySem.W.Frag} {x : Str} {np : Pos} {a b z TI TO i1 i2 : Addr} (D : ZipApart z TI TO i1 i2 a b) :
    Turn P w K (.Name x np) (RZ.ItzT K a b) [z, TI, TO, i1, i2] z (fun i h => ZipAt h z TI TO ∧ IsPair h TI (.ref i1) (.ref i2) ∧ (∃ x y, IsPair h TO x y) ∧ h.IsTupleIter i1 a i ∧ h.IsTupleIter i2 b i) where
  mem := List.mem_cons_self
  obj := fun i h ⟨⟨f0, f, _, g⟩, p1, ⟨x, y, p2⟩, ⟨o1, e1, _, d1⟩, ⟨o2, e2, _, d2⟩⟩ c hc => by
    simp only [List.mem_cons, List.not_mem_nil, or_false] at hc
    rcases hc with rfl | rfl | rfl | rfl | rfl
    · exact ⟨_, g, nofun⟩
    · exact ⟨_, p1, nofun⟩
    · exact ⟨_, p2, nofun⟩
    · exact ⟨o1, e1, by rw [d1]; nofun⟩
    · exact ⟨o2, e2, by rw [d2]; nofun⟩
  keep := fun i h h' ⟨⟨f0, f, hf, g⟩, p1, ⟨x, y, p2⟩, j1, j2⟩ k =>
    ⟨⟨f0, f, hf, k z (by simp) _ g⟩, k TI (by simp) _ p1, ⟨x, y, k TO (by simp) _ p2⟩, j1.at (k i1 (by simp)), j2.at (k i2 (by simp))⟩
  item := by
    intro X hP hw hK hc i pins s σ H E I hf ⟨hz, p1, ⟨_, _, p2⟩, j1, j2⟩ ⟨xs, ys, x, y, qx, qy, hx, hy⟩
    subst hP hw hK
    obtain ⟨us, ru, tu, _⟩ := I.tuple qx
    obtain ⟨vs, rv, tv, _⟩ := I.tuple qy
    obtain ⟨u, hu, kx⟩ := ru.get hx
    obtain ⟨v, hv, ky⟩ := rv.get hy
    refine pyNext_item D hz p1 p2 j1 j2 tu tv (x := u) (y := v) (by simpa using hu) (by simpa using hv) fun h' z' o' e1 e2 new sz far => ⟨_, rfl, wpAny_pure ?_⟩
    have ok : ObjOk X.prog X.w (upd H s.heap.objs.size (.tup [x, y])) h' s.heap.objs.size (.tup [x, y]) := ⟨by show 2 ≤ sizeLine; decide, [u, v], .cons kx (.cons ky .nil), ⟨_, new, rfl, _, rfl⟩⟩
    have out : ∀ c, c ∉ [z, TI, TO, i1, i2] → c ≠ z ∧ c ≠ TO ∧ c ≠ i1 ∧ c ≠ i2 := fun c hc => by
      simp only [List.mem_cons, List.not_mem_nil, or_false, not_or] at hc
      exact ⟨hc.1, hc.2.2.1, hc.2.2.2.1, hc.2.2.2.2⟩
    have I1 := I.turnedNew (t' := s.toks) (fun c o hb q => far c o (out c hb).1 (out c hb).2.1 (out c hb).2.2.1 (out c hb).2.2.2 q) hf (Nat.le_refl _) ok
    refine ⟨.ref s.heap.objs.size, _, I1, rfl, ⟨_, x, y, rfl, I.hok.fresh (Nat.le_refl _), rfl, fun l hl => by rw [I.tuple_inj hl qx]; exact hx, fun l hl => by rw [I.tuple_inj hl qy]; exact hy⟩,
      ⟨z', far _ _ D.TIz D.TITO D.TIi1 D.TIi2 p1, o', e1, e2⟩, fun c hcm => ?_⟩
    have hlt : c < s.heap.objs.size := by
      obtain ⟨f0, f, _, g⟩ := hz
      obtain ⟨o1, q1, _⟩ := j1
      obtain ⟨o2, q2, _⟩ := j2
      simp only [List.mem_cons, List.not_mem_nil, or_false] at hcm
      rcases hcm with rfl | rfl | rfl | rfl | rfl
      · exact Heap.lt_size g
      · exact Heap.lt_size p1
      · exact Heap.lt_size p2
      · exact Heap.lt_size q1
      · exact Heap.lt_size q2
    rw [upd_ne (Nat.ne_of_lt hlt)]
    exact (hf c hcm).1
  done := by
    intro X hP hw hK hc i pins s σ H E I hf ⟨hz, p1, ⟨_, _, p2⟩, j1, j2⟩ ⟨xs, ys, qx, qy, hend⟩
    subst hP hw hK
    obtain ⟨us, ru, tu, _⟩ := I.tuple qx
    obtain ⟨vs, rv, tv, _⟩ := I.tuple qy
    have n1 := ru.length
    have n2 := rv.length
    have he : us.toArray[i]? = none ∨ vs.toArray[i]? = none := hend.imp (fun q => by simp; omega) (fun q => by simp; omega)
    refine pyNext_end (I.ok.hd hc) D hz p1 p2 j1 j2 tu tv he fun h' far => ⟨rfl, I.turnedL (t' := s.toks) (fun c o hb q => ?_) hf⟩
    simp only [List.mem_cons, List.not_mem_nil, or_false, not_or] at hb
    exact far c o hb.1 hb.2.2.1 hb.2.2.2.1 hb.2.2.2.2 q
  self := fun A i s Q E st h => pyIter_zip st.1 h
def iZ (K : PySem.W.Frag) (t : TA) : TI := fun σ H R => t σ H fun vs H1 => ∃ a b xs ys, vs = [.ref a, .ref b] ∧ SqT K H1 a xs ∧ SqT K H1 b ys ∧ R (RZ.ItzT K a b) H1
theorem pi_z {X : Cx} {e e2 : Expr} {t : TA} {p pos np : Pos} {x : Str} (hg : Gl X "zip") (hm : X.mg "zip" = none) (ha : PA X [e, e2] t)
    (hs : starEach [e, e2] X.env = (false, eval e X.env) :: starEach [e2] X.env := by rfl) (hpl : (backTo pos (starEach [e2] X.env)).any (·.1) = false := by rfl) :
    PI X (.Name x np) (.Call (.Name "zip" p) [e, e2] [] pos) (iZ X.K t) := by
  refine ⟨fun pins s σ H R I h => Call_ (ld_blt I hg hm PyProof.Rows.boot_zip (PyProof.Rows.callWith_type1 (thn (ha.run pos pins s σ H _ I h) fun us s1 ⟨vs, H1, I1, r1, ⟨a, b, xs, ys, ex, qx, qy, q⟩⟩ => ?_) hs hpl))⟩
  subst ex
  obtain ⟨u, v, rfl, ra, rb⟩ := vals2 r1
  cases ra
  cases rb
  obtain ⟨us, ru, tu, _⟩ := I1.tuple qx
  obtain ⟨ws, rw_, tw, _⟩ := I1.tuple qy
  obtain ⟨o1, ho1, _⟩ := id tu
  obtain ⟨o2, ho2, _⟩ := id tw
  refine RZ.call_zipT (show s1.heap.IsTuple a us.toArray from tu) (show s1.heap.IsTuple b ws.toArray from tw) fun h' hz hTI hTO h1 h2 hsz hk => ?_
  have za : ZipAt h' (s1.heap.objs.size + 4) (s1.heap.objs.size + 2) (s1.heap.objs.size + 3) := ⟨.none, false, .inl rfl, hz⟩
  have I2 : Inv X pins σ H1 { s1 with heap := h' } := I1.kept (t' := s1.toks) hk
  refine pyIter_zip (s := { s1 with heap := h' }) za ⟨_, _, _, _, H1, rfl, I2, turn_z (PySem.W.ktu_apart s1.heap.objs.size a b (Heap.lt_size ho1) (Heap.lt_size ho2)), ⟨za, hTI, ⟨_, _, hTO⟩, h1, h2⟩, fun c hcm => ?_, q⟩
  have hle : s1.heap.objs.size ≤ c := by
    simp only [List.mem_cons, List.not_mem_nil, or_false] at hcm
    rcases hcm with rfl | rfl | rfl | rfl | rfl
    · exact Nat.le_add_right _ _
    · exact Nat.le_add_right _ _
    · exact Nat.le_add_right _ _
    · exact Nat.le_refl _
    · exact Nat.le_add_right _ _
  exact I1.fpOk hle (I1.hok.fresh hle)
/-- for pair in zip(t, u) -/
theorem it_zip1 {X : Cx} {τ : Tau} {O : Own} {R : List PyData → Own → Prop} {a b : Expr} {x : Str} {p pos np : Pos} (hm : X.mg "zip" = none)
    (h : DE X τ O a fun w O1 => DE X τ O1 b fun w2 O2 => ∃ xs ys, w = .d (.tuple xs) ∧ w2 = .d (.tuple ys) ∧ R (zipD xs ys) O2) (hg : Gl X "zip" := by rfl)
    (hs : starEach [a, b] X.env = (false, eval a X.env) :: starEach [b] X.env := by rfl) (hs2 : starEach [b] X.env = (false, eval b X.env) :: starEach [] X.env := by rfl) (hpl : (backTo pos (starEach [b] X.env)).any (·.1) = false := by rfl) :
    IterD X (.Name x np) (.Call (.Name "zip" p) [a, b] [] pos) τ O R := by
  refine ⟨?_⟩
  intro σ Hr H Rr hE hS hR pins s I
  refine (pi_z hg hm pa_ta hs hpl).run pins s σ H Rr I ?_
  refine (da_cons (PA := fun ws O1 => ∃ xs ys, ws = [.d (.tuple xs), .d (.tuple ys)] ∧ R (zipD xs ys) O1) (h.mono fun w O' h' => da_cons (h'.mono fun w2 O2 ⟨xs, ys, e1, e2, h1⟩ => da_nil ⟨xs, ys, by rw [e1, e2], h1⟩) hs2) hs) σ Hr H _ hE hS fun vs H1 ⟨ws, O1, Hr1, ⟨xs, ys, hw, hr⟩, e1, s1, k1⟩ => ?_
  subst hw
  cases k1 with
  | cons k2 k3 =>
    cases k3 with
    | cons k4 k5 =>
      cases k5
      cases k2 with
      | tup ha da =>
        cases k4 with
        | tup hb db =>
          refine ⟨_, _, _, _, rfl, same_t s1.ex ha, same_t s1.ex hb, hR _ H1 _ O1 Hr1 hr e1 s1 ?_⟩
          unfold ItOk
          have el : (zipD xs ys).length = min xs.length ys.length := by simp [zipD]
          rw [el]
          exact (walk_zipT (K := X.K) (by rw [da.len, db.len])).mono (fun H g => ⟨same_t g ha, same_t g hb⟩) fun i H x H' hi g y => gives_pair y fun a b h1 h2 => by
            obtain ⟨d, hd, kd⟩ := da.getV h1
            obtain ⟨e, he, ke⟩ := db.getV h2
            refine ⟨d, e, ?_, kd, ke⟩
            unfold zipD
            rw [List.getElem?_zipWith, hd, he]
end DZ

set_option Elab.async false
set_option linter.all false
set_option maxRecDepth 100000
set_option maxHeartbeats 2000000
namespace DY
open PySem PySem.Spec PyProof.Rows L2 DL
/-! enumerate of a tuple -/
theorem meets_enum1 {v : Value} {o : Obj} {H : Heap → Prop} (B : Begins v o H) :
    Meets (Builtin.«enumerate.__new__» ⟨[.type "enumerate", v], []⟩) (fun _ R s => H s.heap ∧
      R (.ok (.ret (.ref (s.heap.push o).objs.size))) { s with heap := (s.heap.push o).push { cls := .type "enumerate", data := .fields #[.none, .bool false, .ref s.heap.objs.size, rawInt 0, .none, .none] } }) :=
  .of_wp fun prog w A R s ⟨h1, h⟩ => by
    have hsub := sub_enumerate
    have q1 : ∀ {A' : Around} {E : Value → Shared → Prop} {Q : Value → Shared → Prop}, Q (.ref s.heap.objs.size) { s with heap := s.heap.push o } → wpAny (model prog w) A' (pyIter v) Q E s := fun q => B.iter prog w _ _ s _ h1 q
    obtain ⟨hp, g, d, tk, os⟩ := s
    wp_walk using q1
    refine wpAny_stack_any fun st => wpAny_pure ?_
    split
    · rename_i c _ _ _ _ _
      cases (c == Value.type "enumerate") <;> (wp_walk using q1; exact ⟨_, rfl, h⟩)
    · wp_walk using q1
      exact ⟨_, rfl, h⟩
section
variable {prog : Program} {w : World} {A : Around} {E : Value → Shared → Prop} {s : Shared}
theorem enum_tup {t : Addr} {items : Array Value} {Q : Value → Shared → Prop} (ht : s.heap.IsTuple t items)
    (h : ∀ h', IsEnum h' (s.heap.objs.size + 1) s.heap.objs.size 0 .none → h'.IsTupleIter s.heap.objs.size t 0 → (∀ b o, s.heap.get? b = some o → h'.get? b = some o) → Q (.ref (s.heap.objs.size + 1)) { s with heap := h' }) :
    wpAny (model prog w) A (call (.type "enumerate") [.ref t]) Q E s := by
  have B := begins_tuple t items
  refine callType_new F.called_enumerate (by decide) (F.typeCall_enumerate_1 _) (F.newCall_enumerate_1 _) (fun obj => F.args_object_init_2 obj _) F.entry_enumerate_new (meets_enum1 B) ⟨ht, ?_⟩
  have z : (s.heap.push { cls := .type "tuple_iterator", data := .fields #[.ref t, .int 0 0] }).objs.size = s.heap.objs.size + 1 := Heap.size_push ..
  have g := Heap.get?_push_size (s.heap.push { cls := .type "tuple_iterator", data := .fields #[.ref t, .int 0 0] }) (o := { cls := .type "enumerate", data := .fields #[.none, .bool false, .ref s.heap.objs.size, rawInt 0, .none, .none] }) rfl
  show _ ∧ _
  rw [z] at g ⊢
  exact ⟨⟨_, g, rfl⟩, h _ g ⟨_, Heap.get?_push_of_some _ (Heap.get?_push_size _ rfl), rfl, rfl⟩ fun b o x => Heap.get?_push_of_some _ (Heap.get?_push_of_some _ x)⟩
end
/-- the tuple at a, each item in a new pair -/
def IteT (K : PySem.W.Frag) (a : Addr) : It :=
  ⟨fun i H => ∃ (xs : List V) (x : V), SqT K H a xs ∧ xs[i]? = some x, fun i H v H' => ∃ T x, v = .ref T ∧ H T = none ∧ H' = upd H T (.tup [.int (i : Nat), x]) ∧ ∀ xs, SqT K H a xs → xs[i]? = some x, fun i H => ∃ xs : List V, SqT K H a xs ∧ xs.length ≤ i⟩
theorem turn_e {P : Program} {w : World} {K : PySem.W.Frag} {elts : List Expr} {kk : Nat} {tpos : Pos} (a e it : Addr) :
    Turn P w K (.Tuple elts kk tpos) (IteT K a) [e, it] e (fun i h => (∃ old, IsEnum h e it ((i : Nat) : Int) old) ∧ h.IsTupleIter it a i ∧ e ≠ it) where
  mem := List.mem_cons_self
  obj := fun i h ⟨⟨old, he⟩, ⟨o, ho, hc, hd⟩, _⟩ b hb => by
    simp only [List.mem_cons, List.not_mem_nil, or_false] at hb
    rcases hb with rfl | rfl
    · exact ⟨_, he, nofun⟩
    · exact ⟨o, ho, by rw [hd]; nofun⟩
  keep := fun i h h' ⟨⟨old, he⟩, hi, hne⟩ k => ⟨⟨old, k e (by simp) _ he⟩, hi.at (k it (by simp)), hne⟩
  item := by
    intro X hP hw hK hc i pins s σ H E I hf ⟨⟨old, he⟩, hit, hne⟩ ⟨xs, x, qx, hx⟩
    subst hP hw hK
    obtain ⟨us, ru, tu, _⟩ := I.tuple qx
    obtain ⟨u, hu, kx⟩ := ru.get hx
    have hel : e < s.heap.objs.size := Heap.lt_size he
    have hil : it < s.heap.objs.size := by obtain ⟨_, q, _⟩ := hit; exact Heap.lt_size q
    obtain ⟨ot, hot, hct, nt, hdt⟩ := id tu
    have hta : a ≠ it := fun q => by
      obtain ⟨o2, e2, c2, _⟩ := hit
      subst q
      rw [hot] at e2
      cases e2
      rw [hct] at c2
      exact absurd c2 (by decide)
    have hea : e ≠ a := fun q => by
      subst q
      have he2 := hot.symm.trans he
      cases he2
      exact absurd (show Value.type "enumerate" = Value.type "tuple" from hct) (by decide)
    have hi : i < us.toArray.size := by
      have := (List.getElem?_eq_some_iff.mp hu).1
      simpa using this
    refine wpAny_pyNext_enum_itemC (D := Draws.tuple (A := X.A.in1) (I.ok.hd hc) it a hta us.toArray) he ⟨hit, tu⟩ hi hne (by simp [hne, hea]) fun v h' tk hv ho st new sz far => ⟨_, rfl, ?_⟩
    have hvu : v = u := by
      have q : us.toArray[i]? = some v := hv
      rw [List.getElem?_toArray, hu] at q
      exact (Option.some.inj q).symm
    subst hvu
    refine wpAny_letOwnedTupleGo_enum (s := { s with heap := h', toks := tk + 1 }) ho fun h'' he' sb => ?_
    have new2 := (sb.2 _ (Nat.ne_of_gt hel)).trans new
    have ok : ObjOk X.prog X.w (upd H s.heap.objs.size (.tup [.int (i : Nat), x])) h'' s.heap.objs.size (.tup [.int (i : Nat), x]) :=
      ⟨by show 2 ≤ sizeLine; decide, [.int i tk, v], .cons ⟨_, rfl⟩ (.cons kx .nil), ⟨_, new2, rfl, _, rfl⟩⟩
    have I1 := I.turnedNew (t' := tk + 1) (ch := [e, it]) (fun b ob hb q => by
      simp only [List.mem_cons, List.not_mem_nil, or_false, not_or] at hb
      exact (sb.2 b hb.1).trans (far b ob hb.1 hb.2 q)) hf (Nat.le_refl _) ok
    refine ⟨.ref s.heap.objs.size, _, I1, rfl, ⟨_, x, rfl, I.hok.fresh (Nat.le_refl _), rfl, fun ys hy => by rw [I.tuple_inj hy qx]; exact hx⟩, ⟨⟨v, ?_⟩, st.1.at fun o q => (sb.2 it (Ne.symm hne)).trans q, hne⟩, fun b hb => ?_⟩
    · have e1 : ((i + 1 : Nat) : Int) = (i : Int) + 1 := by omega
      rw [e1]
      exact he'
    · have hb' : b < s.heap.objs.size := by
        simp only [List.mem_cons, List.not_mem_nil, or_false] at hb
        rcases hb with rfl | rfl
        · exact hel
        · exact hil
      rw [upd_ne (Nat.ne_of_lt hb')]
      exact (hf b hb).1
  done := by
    intro X hP hw hK hc i pins s σ H E I hf ⟨⟨old, he⟩, hit, hne⟩ ⟨xs, qx, hx⟩
    subst hP hw hK
    obtain ⟨us, ru, tu, _⟩ := I.tuple qx
    have n1 := ru.length
    obtain ⟨ot, hot, hct, nt, hdt⟩ := id tu
    have hta : a ≠ it := fun q => by
      obtain ⟨o2, e2, c2, _⟩ := hit
      subst q
      rw [hot] at e2
      cases e2
      rw [hct] at c2
      exact absurd c2 (by decide)
    have hea : e ≠ a := fun q => by
      subst q
      have he2 := hot.symm.trans he
      cases he2
      exact absurd (show Value.type "enumerate" = Value.type "tuple" from hct) (by decide)
    unfold pyNext
    have hT : s.TypeIs (.ref e) "enumerate" := ⟨_, he, rfl⟩
    refine wpAny_bind (wpAny_attempt (wpAny_callSpecial?_slot (name := Str.ofString "__next__") hT F.slot_enumerate_next (wpAny_call_entry F.slot_enumerate_next hT F.entry_enumerate_next ?_ (F.args_enumerate_next_1 _))))
    show wpAny _ _ (field (.ref e) 2 >>= _) _ _ _
    refine wpAny_bind (wpAny_field he rfl (x := .ref it) rfl ?_)
    refine wpAny_bind (wpAny_nextOf_tuple_end (A := X.A.in1) (I.ok.hd hc) hit tu (by simp; omega) fun h' ex hk ⟨o, ho, hcl⟩ => ?_)
    refine wpAny_bind (wpAny_isInstance (T := "StopIteration") (b := true) ⟨o, ho, hcl⟩ isSubtype_stop ?_)
    obtain ⟨f0, f1, f2, f3, f4, f5⟩ := hf it (by simp)
    exact wpAny_pure ⟨rfl, I.turned (t' := s.toks) (fun b o hb q => hk b o hb q) f0 f1 f3 f4 f5⟩
  self := fun A i s Q E ⟨⟨_, he⟩, _⟩ h => wpAny_pyIter_enum he h
theorem walk_e {K : PySem.W.Frag} {a : Addr} {xs : List V} : Walk (IteT K a) xs.length (fun H => SqT K H a xs) (YPair (fun i => some (.int (i : Nat))) (fun i => xs[i]?)) :=
  ⟨fun i _ hi q => ⟨xs, xs[i], q, by simp [hi]⟩, fun _ q => ⟨xs, q, Nat.le_refl _⟩, fun i H v H' _ q ⟨T, x, h1, h2, h3, h4⟩ => ⟨T, .int (i : Nat), x, h1, h2, h3, rfl, h4 xs q⟩⟩
/-- for i, x in enumerate(t), t a tuple -/
theorem it_enumT {X : Cx} {τ : Tau} {O : Own} {R : List PyData → Own → Prop} {e : Expr} {elts : List Expr} {kk : Nat} {p pos tpos : Pos} (hm : X.mg "enumerate" = none) (h : DE X τ O e fun w O1 => ∃ ds, w = .d (.tuple ds) ∧ R (enumD ds) O1) (hg : Gl X "enumerate" := by rfl)
    (hs : starEach [e] X.env = [(false, eval e X.env)] := by rfl) : IterD X (.Tuple elts kk tpos) (.Call (.Name "enumerate" p) [e] [] pos) τ O R := by
  refine ⟨?_⟩
  intro σ Hr H Rr hE hS hR pins s I
  have hd := da_cons (PA := fun ws O1 => ∃ ds, ws = [.d (.tuple ds)] ∧ R (enumD ds) O1) (h.mono fun w O' ⟨n, e, h1⟩ => da_nil ⟨n, by rw [e], h1⟩) (by rw [hs]; rfl)
  refine Call_ (ld_blt I hg hm boot_enumerate (PyProof.Rows.callWith_type1 (thn (pa_ta.run pos pins s σ H _ I (hd σ Hr H _ hE hS fun vs H1 q => q)) fun us s1 ⟨vs, H1, I1, r1, ⟨ws, O1, Hr1, ⟨ds, hw, hr⟩, e1, s1', k1⟩⟩ => ?_) hs rfl))
  subst hw
  cases k1 with
  | cons k2 k3 =>
    cases k3
    cases k2 with
    | tup ha da =>
      obtain ⟨u, rfl, ru⟩ := vals1 r1
      cases ru
      obtain ⟨us, rv, tu, _⟩ := I1.tuple (same_t s1'.ex ha)
      refine enum_tup (show s1.heap.IsTuple _ us.toArray from tu) fun h' he hit hk => wpAny_pyIter_enum he ?_
      have I2 : Inv X pins σ H1 { s1 with heap := h' } := I1.kept (t' := s1.toks) hk
      refine ⟨s1.heap.objs.size + 1, [s1.heap.objs.size + 1, s1.heap.objs.size], _, _, H1, rfl, I2, turn_e _ (s1.heap.objs.size + 1) s1.heap.objs.size, ⟨⟨.none, he⟩, hit, Nat.succ_ne_self _⟩, fun b hb => ?_, hR _ H1 _ O1 Hr1 hr e1 s1' ?_⟩
      · have hle : s1.heap.objs.size ≤ b := by
          simp only [List.mem_cons, List.not_mem_nil, or_false] at hb
          rcases hb with rfl | rfl
          · exact Nat.le_add_right _ _
          · exact Nat.le_refl _
        exact I1.fpOk hle (I1.hok.fresh hle)
      · unfold ItOk
        have el : (enumD ds).length = ds.length := by simp [enumD]
        rw [el, ← da.len]
        exact (walk_e (K := X.K)).mono (fun H g => same_t g ha) fun i H x H' hi g y => gives_pair y fun a b h1 h2 => by
          cases h1
          obtain ⟨d, hd, kd⟩ := da.getV h2
          refine ⟨.int (i : Nat), d, ?_, .int _, kd⟩
          have hi' : i < ds.length := by rw [← da.len]; exact hi
          unfold enumD
          rw [List.getElem?_map, List.getElem?_range hi']
          simp [List.getD, hd]
/-! ### max, min of data that are alike -/
open PySem.W
theorem reads_of {X : Cx} {pins : List (Addr × Obj)} {σ : L2.St} {H : Hp} {s : Shared} {ds : List PyData} {vs : List V} {us : List Value} (I : Inv X pins σ H s) (h : DvAll X.K H vs ds) (r : Vals vs us) : ∃ as, ReadsAll s.heap us ds as := Dp.readsAll I ds vs us h.dp r
theorem c_maxT {X : Cx} {O : Own} {P : DL.W → Own → Prop} {d : PyData} {ds : List PyData} (hc : X.calm = true) (ha : AlikeAll (d :: ds)) (hu : X.A.units + 1 + PyData.depthAll (d :: ds) < cLine) (hi : ∃ n, maxD d ds = .int n) (h : P (.d (maxD d ds)) O) :
    CallD X (.builtin "max") [.d (.tuple (d :: ds))] O P := by
  refine ⟨?_⟩
  intro vs Hr H Q hS h1 hQ pins s σ us I r1
  cases h1 with
  | cons k1 k2 =>
    cases k2
    cases k1 with
    | tup e1 a1 =>
      obtain ⟨u, rfl, ru⟩ := vals1 r1
      cases ru
      obtain ⟨ws, rv, tv, _⟩ := I.tuple (same_t hS.ex e1)
      obtain ⟨as, ra⟩ := reads_of I (dvAll_mono hS.ex a1) rv
      obtain ⟨n, hn⟩ := hi
      refine max_tuple_data (I.ok.hd hc) (show s.heap.IsTuple _ ws.toArray from tv) (as := as) (by simpa using ra) ha hu fun i v h' tk bs hv hr hk => ?_
      rw [hn] at hr h
      have rel : RelV (.int n) v := by cases hr; exact ⟨_, rfl⟩
      exact ⟨.int n, H, I.kept (t' := tk) hk, rel, hQ _ _ (po_here h hS (.int n))⟩
theorem c_minT {X : Cx} {O : Own} {P : DL.W → Own → Prop} {d : PyData} {ds : List PyData} (hc : X.calm = true) (ha : AlikeAll (d :: ds)) (hu : X.A.units + 1 + PyData.depthAll (d :: ds) < cLine) (hi : ∃ n, minD d ds = .int n) (h : P (.d (minD d ds)) O) :
    CallD X (.builtin "min") [.d (.tuple (d :: ds))] O P := by
  refine ⟨?_⟩
  intro vs Hr H Q hS h1 hQ pins s σ us I r1
  cases h1 with
  | cons k1 k2 =>
    cases k2
    cases k1 with
    | tup e1 a1 =>
      obtain ⟨u, rfl, ru⟩ := vals1 r1
      cases ru
      obtain ⟨ws, rv, tv, _⟩ := I.tuple (same_t hS.ex e1)
      obtain ⟨as, ra⟩ := reads_of I (dvAll_mono hS.ex a1) rv
      obtain ⟨n, hn⟩ := hi
      refine min_tuple_data (I.ok.hd hc) (show s.heap.IsTuple _ ws.toArray from tv) (as := as) (by simpa using ra) ha hu fun i v h' tk bs hv hr hk => ?_
      rw [hn] at hr h
      have rel : RelV (.int n) v := by cases hr; exact ⟨_, rfl⟩
      exact ⟨.int n, H, I.kept (t' := tk) hk, rel, hQ _ _ (po_here h hS (.int n))⟩
theorem alike_ints {ns : List Int} : AlikeAll (ns.map PyData.int) := ⟨fun x hx y hy => by
  obtain ⟨i, _, rfl⟩ := List.mem_map.mp hx
  obtain ⟨j, _, rfl⟩ := List.mem_map.mp hy
  simp [alike], fun x hx => by
  obtain ⟨i, _, rfl⟩ := List.mem_map.mp hx
  simp⟩
/-- .. of two ints -/
theorem c_max2T {X : Cx} {O : Own} {P : DL.W → Own → Prop} {i j : Int} (hc : X.calm = true) (hu : X.A.units + 64 < cLine) (h : P (.d (.int (max i j))) O) : CallD X (.builtin "max") [.d (.tuple [.int i, .int j])] O P := by
  have e : maxD (.int i) [.int j] = .int (max i j) := maxD_ints i [j]
  exact c_maxT hc ⟨by simp [alike], by simp⟩ (by have := hu; simp [PyData.depthAll, PyData.depth]; omega) ⟨_, e⟩ (by rw [e]; exact h)
theorem c_min2T {X : Cx} {O : Own} {P : DL.W → Own → Prop} {i j : Int} (hc : X.calm = true) (hu : X.A.units + 64 < cLine) (h : P (.d (.int (min i j))) O) : CallD X (.builtin "min") [.d (.tuple [.int i, .int j])] O P := by
  have e : minD (.int i) [.int j] = .int (min i j) := minD_ints i [j]
  exact c_minT hc ⟨by simp [alike], by simp⟩ (by have := hu; simp [PyData.depthAll, PyData.depth]; omega) ⟨_, e⟩ (by rw [e]; exact h)
end DY

set_option Elab.async false
set_option linter.all false
set_option maxRecDepth 100000
set_option maxHeartbeats 2000000
namespace DL
open PySem PySem.Spec PyProof.Rows L2
/-! ### tests told once more -/
theorem if_dt {p : Prop} [Decidable p] {A B : Prop} (e : p) (h : A) : if decide p = true then A else B := if_t (decide_eq_true e) h
theorem if_df {p : Prop} [Decidable p] {A B : Prop} (e : ¬p) (h : B) : if decide p = true then A else B := if_f (decide_eq_false e) h
theorem if_nt {p : Prop} [Decidable p] {A B : Prop} (e : ¬p) (h : A) : if (!decide p) = true then A else B := if_t (by rw [decide_eq_false e]; rfl) h
theorem if_nf {p : Prop} [Decidable p] {A B : Prop} (e : p) (h : B) : if (!decide p) = true then A else B := if_f (by rw [decide_eq_true e]; rfl) h
theorem if_d2 {p : Prop} [Decidable p] {A B : Prop} (h1 : p → A) (h2 : ¬p → B) : if decide p = true then A else B := if_2 (fun e => h1 (of_decide_eq_true e)) (fun e => h2 (of_decide_eq_false e))
theorem if_n2 {p : Prop} [Decidable p] {A B : Prop} (h1 : ¬p → A) (h2 : p → B) : if (!decide p) = true then A else B := if_2 (fun e => h1 (by simpa using e)) (fun e => h2 (by simpa using e))
theorem if_n {k : Bool} {A B : Prop} (h : if k = true then B else A) : if (!k) = true then A else B := by
  cases k with
  | true => exact h
  | false => exact h
/-! ### of which type -/
def isIntD : PyData → Bool
  | .int _ => true
  | .bool _ => true
  | _ => false
def isBoolD : PyData → Bool
  | .bool _ => true
  | _ => false
def isStrD : PyData → Bool
  | .str _ => true
  | _ => false
def isListD : PyData → Bool
  | .list _ => true
  | _ => false
def isTupD : PyData → Bool
  | .tuple _ => true
  | _ => false
section
variable {X : Cx} {O : Own} {P : W → Own → Prop} {d : PyData}
theorem c_isInt (h : P (.d (.bool (isIntD d))) O) : CallD X (.builtin "isinstance") [.d d, .r (.ty "int")] O P := c_isi (.inl rfl) (by
  have e : isT "int" d = isIntD d := by cases d <;> rfl
  rw [e]; exact h)
theorem c_isBool (h : P (.d (.bool (isBoolD d))) O) : CallD X (.builtin "isinstance") [.d d, .r (.ty "bool")] O P := c_isi (.inr (.inl rfl)) (by
  have e : isT "bool" d = isBoolD d := by cases d <;> rfl
  rw [e]; exact h)
theorem c_isStr (h : P (.d (.bool (isStrD d))) O) : CallD X (.builtin "isinstance") [.d d, .r (.ty "str")] O P := c_isi (.inr (.inr (.inl rfl))) (by
  have e : isT "str" d = isStrD d := by cases d <;> rfl
  rw [e]; exact h)
theorem c_isList (h : P (.d (.bool (isListD d))) O) : CallD X (.builtin "isinstance") [.d d, .r (.ty "list")] O P := c_isi (.inr (.inr (.inr (.inl rfl)))) (by
  have e : isT "list" d = isListD d := by cases d <;> rfl
  rw [e]; exact h)
theorem c_isTup (h : P (.d (.bool (isTupD d))) O) : CallD X (.builtin "isinstance") [.d d, .r (.ty "tuple")] O P := c_isi (.inr (.inr (.inr (.inr rfl)))) (by
  have e : isT "tuple" d = isTupD d := by cases d <;> rfl
  rw [e]; exact h)
end
theorem isTupD_t {d : PyData} (h : isTupD d = true) : ∃ ds, d = .tuple ds := by cases d <;> first | exact ⟨_, rfl⟩ | cases h
theorem isStrD_t {d : PyData} (h : isStrD d = true) : ∃ z, d = .str z := by cases d <;> first | exact ⟨_, rfl⟩ | cases h
theorem isListD_t {d : PyData} (h : isListD d = true) : ∃ ds, d = .list ds := by cases d <;> first | exact ⟨_, rfl⟩ | cases h
theorem isBoolD_t {d : PyData} (h : isBoolD d = true) : ∃ k, d = .bool k := by cases d <;> first | exact ⟨_, rfl⟩ | cases h
theorem isIntD_t {d : PyData} (h : isIntD d = true) : (∃ i, d = .int i) ∨ ∃ k, d = .bool k := by cases d <;> first | exact .inl ⟨_, rfl⟩ | exact .inr ⟨_, rfl⟩ | cases h
/-! ### comprehensions that change nothing -/
section
variable {X : Cx} {τ : Tau} {O : Own} {elt t iter : Expr} {scope : Scope} {g : TG}
theorem lcd_map {vs : List Nat} {PL : Addr → List PyData → Own → Prop} {ds : List PyData} (f : PyData → PyData) (hz : ds.length < sizeLine)
    (hb : ∀ (i : Nat) (d : PyData), ds[i]? = some d → ∃ τ2, TgOk X.K g vs d (wipeT τ vs) τ2 ∧ ∀ (p : Addr) (acc : List PyData) (s : Shared) (H : Hp) (C : Addr) (cl : List (Str × Addr)) (fp : List Addr),
      DE (blk X scope s H C cl fp) τ2 ((p, .l acc) :: O) elt fun w O4 => w = .d (f d) ∧ O4 = (p, .l acc) :: O)
    (he : ∀ p, PL p (ds.map f) O) : LcD X τ O elt [] scope vs g PL ds := by
  refine lcd_pure (fun d => some (f d)) hz (fun i d hd => ?_) (fun p => by rw [List.filterMap_eq_map']; exact he p)
  obtain ⟨τ2, h1, h2⟩ := hb i d hd
  exact ⟨τ2, h1, true, (fun h => nomatch h), fun p acc s H C cl fp => ⟨dts_nil ⟨rfl, rfl⟩, fun _ => (h2 p acc s H C cl fp).mono fun w O4 ⟨a, b⟩ => ⟨b, f d, a, rfl⟩⟩⟩
/-- one test, told by k -/
theorem lcd_filter {vs : List Nat} {PL : Addr → List PyData → Own → Prop} {ds : List PyData} {c : Expr} (k : PyData → Bool) (f : PyData → PyData) (hz : ds.length < sizeLine)
    (hb : ∀ (i : Nat) (d : PyData), ds[i]? = some d → ∃ τ2, TgOk X.K g vs d (wipeT τ vs) τ2 ∧ ∀ (p : Addr) (acc : List PyData) (s : Shared) (H : Hp) (C : Addr) (cl : List (Str × Addr)) (fp : List Addr),
      DT (blk X scope s H C cl fp) τ2 ((p, .l acc) :: O) c (fun b O3 => b = k d ∧ O3 = (p, .l acc) :: O) ∧
      (k d = true → DE (blk X scope s H C cl fp) τ2 ((p, .l acc) :: O) elt fun w O4 => w = .d (f d) ∧ O4 = (p, .l acc) :: O))
    (he : ∀ p, PL p ((ds.filter k).map f) O) : LcD X τ O elt [c] scope vs g PL ds := by
  refine lcd_pure (fun d => if k d = true then some (f d) else none) hz (fun i d hd => ?_) (fun p => ?_)
  · obtain ⟨τ2, h1, h2⟩ := hb i d hd
    refine ⟨τ2, h1, k d, (fun h => by simp [h]), fun p acc s H C cl fp => ⟨dts_one (h2 p acc s H C cl fp).1, fun hk => ((h2 p acc s H C cl fp).2 hk).mono fun w O4 ⟨a, b⟩ => ⟨b, f d, a, by simp [hk]⟩⟩⟩
  · have e : ds.filterMap (fun d => if k d = true then some (f d) else none) = (ds.filter k).map f := by
      induction ds with
      | nil => rfl
      | cons x r ih =>
        have ih' := ih (by simp only [List.length_cons] at hz; omega) (fun i d hd => hb (i + 1) d (by simpa using hd))
        by_cases h : k x = true
        · simp [List.filter_cons, List.filterMap_cons, h]
          clear ih ih' hb he hz
          induction r with
          | nil => rfl
          | cons y r ih => by_cases h2 : k y = true <;> simp [List.filter_cons, List.filterMap_cons, h2, ih]
        · simp [List.filter_cons, List.filterMap_cons, h]
          clear ih ih' hb he hz
          induction r with
          | nil => rfl
          | cons y r ih => by_cases h2 : k y = true <;> simp [List.filter_cons, List.filterMap_cons, h2, ih]
    rw [e]
    exact he p
end
/-! ### ints in lists -/
theorem ixN_nat {m n : Nat} (h : n < m) : ixN m (n : Int) = some n := by simp [ixN, h]
theorem ixN_int {m : Nat} {i : Int} (h0 : 0 ≤ i) (h : i < m) : ixN m i = some i.toNat := by simp [ixN, h, h0]
theorem atI_get {α : Type} {ds : List α} {i : Int} {d : α} (h0 : 0 ≤ i) (h : ds[i.toNat]? = some d) : atI ds i = some d := by
  have h1 : i.toNat < ds.length := (List.getElem?_eq_some_iff.mp h).1
  simp [atI, ixN_int h0 (show i < ds.length by omega), h]
theorem atI_nat {α : Type} {ds : List α} {n : Nat} {d : α} (h : ds[n]? = some d) : atI ds (n : Int) = some d := atI_get (Int.natCast_nonneg n) (by simpa using h)
theorem at_ints {ns : List Int} {i : Int} (h0 : 0 ≤ i) (h1 : i < ns.length) : atI (ns.map PyData.int) i = some (.int (ns.getD i.toNat 0)) := by
  refine atI_get h0 ?_
  have h2 : i.toNat < ns.length := by omega
  simp [List.getElem?_map, List.getD, h2]
theorem at_intsS {ns : List Int} {i : Int} (h0 : 0 ≤ i) (h1 : i < ns.length) : atI ns i = some (ns.getD i.toNat 0) := by
  refine atI_get h0 ?_
  have h2 : i.toNat < ns.length := by omega
  simp [List.getD, h2]
theorem rangeD_at {lo : Int} {n i : Nat} {d : PyData} (h : (rangeD lo n)[i]? = some d) : i < n ∧ d = .int (lo + (i : Nat)) := by
  unfold rangeD at h
  rw [List.getElem?_map] at h
  by_cases hi : i < n
  · rw [List.getElem?_range hi] at h
    exact ⟨hi, by cases h; rfl⟩
  · rw [List.getElem?_eq_none (by simpa using hi)] at h
    cases h
theorem rangeD_len {lo : Int} {n : Nat} : (rangeD lo n).length = n := by simp [rangeD]
theorem rangeD_map {lo : Int} {n : Nat} (f : PyData → PyData) : (rangeD lo n).map f = (List.range n).map fun i => f (.int (lo + (i : Nat))) := by simp [rangeD]
/-! ### a box: a list of one int, owned -/
def BoxAt (O : Own) (j : Nat) (p : Addr) (n : Int) : Prop := O[j]? = some (p, Cell.l [.int n])
theorem BoxAt.set {O : Own} {j : Nat} {p : Addr} {n m : Int} (h : BoxAt O j p n) : BoxAt (O.set j (p, .l [.int m])) j p m := by
  have hj : j < O.length := (List.getElem?_eq_some_iff.mp h).1
  simp [BoxAt, hj]
theorem BoxAt.cons {O : Own} {j : Nat} {p : Addr} {n : Int} {x : Addr × Cell} (h : BoxAt O j p n) : BoxAt (x :: O) (j + 1) p n := by simpa [BoxAt] using h
/-- what the boxed number may become -/
abbrev O.bx (O : Own) (j : Nat) (p : Addr) (m : Int) : Own := O.set j (p, Cell.l [.int m])
/-- the promise of a digit taken from the box -/
def pTake : Pre := fun ws O P => ∃ (j : Nat) (p : Addr) (n z : Int), ws = [.r (.ref p), .d (.int z)] ∧ BoxAt O j p n ∧ 0 < z ∧ z < 2 ^ 63 ∧ P (.d (.int (n % z))) (O.set j (p, .l [.int (n / z)]))
theorem take_i {O : Own} {P : W → Own → Prop} {j : Nat} {p : Addr} {n z : Int} (b : BoxAt O j p n) (h0 : 0 < z) (h1 : z < 2 ^ 63) (h : ∀ r m : Int, 0 ≤ r → r < z → P (.d (.int r)) (O.set j (p, .l [.int m]))) : pTake [.r (.ref p), .d (.int z)] O P :=
  ⟨j, p, n, z, rfl, b, h0, h1, h _ _ (Int.emod_nonneg _ (by omega)) (Int.emod_lt_of_pos _ h0)⟩
/-- the promise of a number of the script -/
def pNumber : Pre := fun ws O P => ∃ (ns : List Int) (k : Int), ws = [.s (.list (ns.map .int)), .d (.int k)] ∧ ns.length ≤ 63 ∧ 0 ≤ k ∧ k < 1000 ∧ ∀ m : Int, P (.d (.int m)) O
theorem number_i {O : Own} {P : W → Own → Prop} {ns : List Int} {k : Int} (hl : ns.length ≤ 63) (h0 : 0 ≤ k) (h1 : k < 1000) (h : ∀ m : Int, P (.d (.int m)) O) : pNumber [.s (.list (ns.map .int)), .d (.int k)] O P := ⟨ns, k, rfl, hl, h0, h1, h⟩
/-- the promise of a law -/
def pLaw : Pre := fun ws O P => ∃ ns : List Int, ws = [.s (.list (ns.map .int))] ∧ ns.length ≤ 63 ∧ ∀ O2, P (.d (.bool true)) O2
theorem dpAll_ints {K : PySem.W.Frag} {H : Hp} : ∀ ns : List Int, DpAll K H (ns.map V.int) (ns.map PyData.int)
  | [] => .nil
  | n :: ns => .cons (.int n) (dpAll_ints ns)
theorem law_start {K : PySem.W.Frag} {H : Hp} {a : Addr} {ns : List Int} {X : XK} (hl : ns.length ≤ 63) (hS : SqL K H a (ns.map V.int)) : spD K 1 pLaw [V.ref a] H (fun v _ => v = V.bl true) X := by
  refine ⟨[.s (.list (ns.map .int))], [], H, fun w _ => w = .d (.bool true), ⟨Same.refl _, fun x hx => (nomatch hx), List.nodup_nil⟩, .cons (Dp.lst hS (dpAll_ints ns)) .nil, rfl, ⟨ns, rfl, hl, fun _ => rfl⟩, fun v H' ⟨w, _, _, hw, _, _, k⟩ => ?_⟩
  subst hw
  cases k
  rfl
/-! ### what the top has written -/
/-- a name of the top that holds data -/
structure GC (K : PySem.W.Frag) (mg : Str → Option Value) (x : Str) (d : PyData) : Prop where
  ex : ∃ (v : V) (u : Value), mg x = some u ∧ RelV v u ∧ ∀ Hr, Dv K Hr v d
theorem GC.int {K : PySem.W.Frag} {mg : Str → Option Value} {x : Str} {i : Int} {t} (h : mg x = some (.int i t)) : GC K mg x (.int i) := ⟨.int i, _, h, ⟨_, rfl⟩, fun _ => .int i⟩
theorem GC.str {K : PySem.W.Frag} {mg : Str → Option Value} {x : Str} {i : Str} {t} (h : mg x = some (.str i t)) : GC K mg x (.str i) := ⟨.str i, _, h, ⟨_, rfl⟩, fun _ => .str i⟩
theorem dvAll_ints {K : PySem.W.Frag} {H : Hp} : ∀ ns : List Int, DvAll K H (ns.map V.int) (ns.map PyData.int)
  | [] => .nil
  | n :: ns => .cons (.int n) (dvAll_ints ns)
theorem GC.ints {K : PySem.W.Frag} {mg : Str → Option Value} {x : Str} {a : Addr} {ns : List Int} {od : Option Addr} {its : Array Value} {n : Nat} {sl} (h : mg x = some (.ref a)) (l : K.lookup a = some ⟨.type "tuple", od, .seq its n, sl⟩) (hz : its.size ≤ sizeLine) (hv : Vals (ns.map V.int) its.toList) : GC K mg x (.tuple (ns.map PyData.int)) :=
  ⟨.ref a, _, h, rfl, fun _ => .tup (.inr ⟨_, its, n, l, rfl, rfl, hz, hv⟩) (dvAll_ints ns)⟩
theorem de_const {X : Cx} {τ : Tau} {O : Own} {P : W → Own → Prop} {x : Str} {pos : Pos} {d : PyData} (c : GC X.K X.mg x d) (h : P (.d d) O) (hg : Gl X x := by rfl) (hd : (x == ("__debug__" : Str)) = false := by decide) : DE X τ O (.Name x pos) P := by
  obtain ⟨v, u, h1, h2, h3⟩ := c.ex
  exact de_glob (w := .d d) h1 h2 (fun Hr => h3 Hr) h hg hd
theorem call_tag {X : Cx} {τ : Tau} {O : Own} {P : W → Own → Prop} (x : Str) {p pos : Pos} {es : List Expr} {ks} (h : DE X τ O (.Call (.Name x p) es ks pos) P) : DE X τ O (.Call (.Name x p) es ks pos) P := h
theorem name_tag {X : Cx} {τ : Tau} {O : Own} {P : W → Own → Prop} (x : Str) {pos : Pos} (h : DE X τ O (.Name x pos) P) : DE X τ O (.Name x pos) P := h
/-! ### comprehensions over one name, over two -/
section
variable {X : Cx} {τ : Tau} {O : Own} {P : W → Own → Prop} {D : DEn} {elt iter : Expr} {ifs : List Expr} {scope : Scope} {pos pos2 tp tp2 spos : Pos} {y y2 : Str} {kk : Nat}
abbrev gN2 (K : PySem.W.Frag) (i j : Nat) : TG := gTup K 2 (gCons (gName i) (gCons (gName j) gNil))
theorem de_lc1 (i : Nat) (hN : X.N.Nodup) (ok : BlkOk X.N X.env.scope scope [(y, i)])
    (h : IterD X (.Name y tp) iter τ O fun ds O1 => LcD X τ O1 elt ifs scope [i] (gName i) (fun _ acc O2 => P (.d (.list acc)) O2) ds)
    (hg : ∀ (s : Shared) (H : Hp) (C : Addr) (cl : List (Str × Addr)) (fp : List Addr), PG (blk X scope s H C cl fp) (.Name y tp) (gName i) := by exact fun _ _ _ _ _ => pg_name (by assumption) rfl (by first | exact Or.inl rfl | exact Or.inr rfl)) (hc : X.calm = true := by rfl) (hs : ∀ x, foldedSetIterable iter X.env x = pure x := by intro _; rfl) :
    DE X τ O (.ListComp elt [⟨.Name y tp, iter, ifs, 0⟩] scope pos) P := de_lc [(y, i)] (gName i) hN ok hg h hc hs
theorem de_lc1O (i : Nat) (hN : X.N.Nodup) (ok : BlkOk X.N X.env.scope scope [(y, i)])
    (h : IterD X (.Name y tp) iter τ O fun ds O1 => LcD X τ O1 elt ifs scope [i] (gName i) (fun p acc O2 => P (.r (.ref p)) ((p, .l acc) :: O2)) ds)
    (hg : ∀ (s : Shared) (H : Hp) (C : Addr) (cl : List (Str × Addr)) (fp : List Addr), PG (blk X scope s H C cl fp) (.Name y tp) (gName i) := by exact fun _ _ _ _ _ => pg_name (by assumption) rfl (by first | exact Or.inl rfl | exact Or.inr rfl)) (hc : X.calm = true := by rfl) (hs : ∀ x, foldedSetIterable iter X.env x = pure x := by intro _; rfl) :
    DE X τ O (.ListComp elt [⟨.Name y tp, iter, ifs, 0⟩] scope pos) P := de_lcO [(y, i)] (gName i) hN ok hg h hc hs
theorem de_lc2 (i j : Nat) (hN : X.N.Nodup) (ok : BlkOk X.N X.env.scope scope [(y, i), (y2, j)])
    (h : IterD X (.Tuple [.Name y tp, .Name y2 tp2] kk pos2) iter τ O fun ds O1 => LcD X τ O1 elt ifs scope [i, j] (gN2 X.K i j) (fun _ acc O2 => P (.d (.list acc)) O2) ds)
    (hg : ∀ (s : Shared) (H : Hp) (C : Addr) (cl : List (Str × Addr)) (fp : List Addr), PG (blk X scope s H C cl fp) (.Tuple [.Name y tp, .Name y2 tp2] kk pos2) (gN2 X.K i j) := by
      exact fun _ _ _ _ _ => pg_tup rfl (pgs_cons (pg_name (by assumption) rfl (by first | exact Or.inl rfl | exact Or.inr rfl)) (pgs_cons (pg_name (by assumption) rfl (by first | exact Or.inl rfl | exact Or.inr rfl)) pgs_nil))) (hc : X.calm = true := by rfl) (hs : ∀ x, foldedSetIterable iter X.env x = pure x := by intro _; rfl) :
    DE X τ O (.ListComp elt [⟨.Tuple [.Name y tp, .Name y2 tp2] kk pos2, iter, ifs, 0⟩] scope pos) P := de_lc [(y, i), (y2, j)] (gN2 X.K i j) hN ok hg h hc hs
theorem ds_setLc1 (k i : Nat) {z : Str} {zp : Pos} (hN : X.N.Nodup) (ok : BlkOk X.N X.env.scope scope [(y, i)])
    (h : IterD X (.Name y tp) iter τ O fun ds O1 => LcD X τ O1 elt ifs scope [i] (gName i) (fun _ acc O2 => D.nx (τ.set k (some (.d (.list acc)))) O2) ds)
    (hg : ∀ (s : Shared) (H : Hp) (C : Addr) (cl : List (Str × Addr)) (fp : List Addr), PG (blk X scope s H C cl fp) (.Name y tp) (gName i) := by exact fun _ _ _ _ _ => pg_name (by assumption) rfl (by first | exact Or.inl rfl | exact Or.inr rfl))
    (hsw : swapsWith (.ListComp elt [⟨.Name y tp, iter, ifs, 0⟩] scope pos) (some (.Name z zp)) spos.line X.env = pure true := by exact sw_true rfl rfl rfl (by decide +kernel))
    (hc : X.calm = true := by rfl) (hs : ∀ x, foldedSetIterable iter X.env x = pure x := by intro _; rfl) (hy : X.N[k]? = some z := by rfl) (hyl : X.env.scope.names.lookup z = some .local := by rfl) :
    DS X τ O (.Assign [.Name z zp] (.ListComp elt [⟨.Name y tp, iter, ifs, 0⟩] scope pos) spos) D := ds_setLc k [(y, i)] (gName i) hN ok hg h hsw hc hs hy hyl
end
/-! ### vectors: tuples of ints -/
abbrev vec (ns : List Int) : PyData := .tuple (ns.map PyData.int)
theorem ints_at {ns : List Int} {i : Nat} {d : PyData} (h : (ns.map PyData.int)[i]? = some d) : ∃ n, ns[i]? = some n ∧ d = .int n := by
  rw [List.getElem?_map] at h
  cases e : ns[i]? with
  | none => rw [e] at h; cases h
  | some n => rw [e] at h; cases h; exact ⟨n, rfl, rfl⟩
theorem zipD_ints : ∀ (xs ys : List Int), zipD (xs.map PyData.int) (ys.map PyData.int) = (List.zip xs ys).map fun p => PyData.tuple [.int p.1, .int p.2]
  | [], _ => rfl
  | _ :: _, [] => rfl
  | x :: xs, y :: ys => by
    have := zipD_ints xs ys
    simp only [zipD, List.map_cons, List.zipWith_cons_cons, List.zip_cons_cons] at this ⊢
    rw [this]
theorem zipD_at {xs ys : List Int} {i : Nat} {d : PyData} (h : (zipD (xs.map PyData.int) (ys.map PyData.int))[i]? = some d) : ∃ a b, d = .tuple [.int a, .int b] := by
  rw [zipD_ints, List.getElem?_map] at h
  cases e : (List.zip xs ys)[i]? with
  | none => rw [e] at h; cases h
  | some n => rw [e] at h; cases h; exact ⟨n.1, n.2, rfl⟩
theorem at0 {α : Type} {x : α} {r : List α} : atI (x :: r) 0 = some x := atI_get (by decide) rfl
/-- what is made of a pair of ints -/
def pairF (f : Int → Int → PyData) : PyData → PyData
  | .tuple [.int a, .int b] => f a b
  | _ => .none
theorem zipD_pairF {xs ys : List Int} (f : Int → Int → Int) : (zipD (xs.map PyData.int) (ys.map PyData.int)).map (pairF fun a b => .int (f a b)) = ((List.zip xs ys).map fun p => f p.1 p.2).map PyData.int := by
  rw [zipD_ints, List.map_map, List.map_map]
  rfl
theorem zipD_pairB {xs ys : List Int} (f : Int → Int → Bool) : (zipD (xs.map PyData.int) (ys.map PyData.int)).map (pairF fun a b => .bool (f a b)) = ((List.zip xs ys).map fun p => f p.1 p.2).map PyData.bool := by
  rw [zipD_ints, List.map_map, List.map_map]
  rfl
/-! ### a joint between statements -/
section
variable {X : Cx} {τ : Tau} {O : Own} {D D' : DEn} {st : Stmt} {rest : List Stmt}
theorem EOk.back {K : PySem.W.Frag} {Hr : Hp} {E : Ends} (h : EOk K Hr D' E) (n : ∀ τ' O', D.nx τ' O' → D'.nx τ' O') (r : ∀ w O', D.rt w O' → D'.rt w O') (b : ∀ τ' O', D.bk τ' O' → D'.bk τ' O') (c : ∀ τ' O', D.ct τ' O' → D'.ct τ' O') : EOk K Hr D E :=
  ⟨fun σ H ⟨τ', O', Hr', p, q⟩ => h.nx σ H ⟨τ', O', Hr', n _ _ p, q⟩, fun v H ⟨w, O', Hr', p, q⟩ => h.rt v H ⟨w, O', Hr', r _ _ p, q⟩, fun σ H ⟨τ', O', Hr', p, q⟩ => h.bk σ H ⟨τ', O', Hr', b _ _ p, q⟩, fun σ H ⟨τ', O', Hr', p, q⟩ => h.ct σ H ⟨τ', O', Hr', c _ _ p, q⟩⟩
theorem dss_mid (R : Tau → Own → Prop) (h : DS X τ O st { D with nx := R }) (h2 : ∀ τ' O', R τ' O' → DSs X τ' O' rest D) : DSs X τ O (st :: rest) D :=
  dss_cons ⟨fun σ Hr H E hE hS hD => h σ Hr H E hE hS (EOk.back hD (fun τ' O' p => h2 τ' O' p) (fun _ _ p => p) (fun _ _ p => p) (fun _ _ p => p))⟩
end
theorem cpow {i j : Int} (h : 0 ≤ j ∧ j ≤ 1000000 ∧ i.natAbs < 18446744073709551616) : CPow i j := ⟨h.1, h.2.1, Nat.lt_of_lt_of_le h.2.2 (by decide)⟩
theorem cutL_len {α : Type} {ds : List α} {lo hi : Option Int} : (cutL ds lo hi).length ≤ ds.length := by
  unfold cutL
  rw [List.length_take, List.length_drop]
  omega
theorem at_some {α : Type} {ds : List α} {i : Int} (h0 : 0 ≤ i) (h1 : i < ds.length) : ∃ d, atI ds i = some d := by
  have h2 : i.toNat < ds.length := by omega
  exact ⟨ds[i.toNat], atI_get h0 (by simp [h2])⟩
theorem ix_any {X : Cx} {O : Own} {P : W → Own → Prop} {w1 : W} {ds : List PyData} {i : Int} (r : RdL w1 O ds) (h0 : 0 ≤ i) (h1 : i < ds.length) (h : ∀ d, d ∈ ds → P (.d d) O) : IxD X w1 (.d (.int i)) O P := by
  have h2 : i.toNat < ds.length := by omega
  exact ix_l r (atI_get h0 (show ds[i.toNat]? = some ds[i.toNat] by simp [h2])) (h _ (List.getElem_mem _))
theorem ix_tany {X : Cx} {O : Own} {P : W → Own → Prop} {ds : List PyData} {i : Int} (h0 : 0 ≤ i) (h1 : i < ds.length) (h : ∀ d, d ∈ ds → P (.d d) O) : IxD X (.d (.tuple ds)) (.d (.int i)) O P := by
  have h2 : i.toNat < ds.length := by omega
  exact ix_t (atI_get h0 (show ds[i.toNat]? = some ds[i.toNat] by simp [h2])) (h _ (List.getElem_mem _))
end DL

set_option Elab.async false
set_option linter.all false
set_option maxRecDepth 100000
set_option maxHeartbeats 2000000
namespace DL
open PySem PySem.Spec PyProof.Rows L2
/-! ### equality of data -/
mutual
theorem eqv_refl : ∀ d : PyData, d.canLay0 = true → PyData.eqv d d = true
  | .none, _ => rfl
  | .bool b, _ => by cases b <;> rfl
  | .int i, _ => by simp [PyData.eqv]
  | .str x, _ => by simp [PyData.eqv]
  | .list xs, h => by
    simp only [PyData.eqv]
    exact eqvAll_refl xs (by simpa [PyData.canLay0] using h)
  | .tuple xs, h => by
    simp only [PyData.eqv]
    exact eqvAll_refl xs (by simpa [PyData.canLay0] using h)
  | .dict _, h => by simp [PyData.canLay0] at h
theorem eqvAll_refl : ∀ ds : List PyData, PyData.canLayAll0 ds = true → PyData.eqvAll ds ds = true
  | [], _ => rfl
  | x :: xs, h => by
    simp only [PyData.canLayAll0, Bool.and_eq_true] at h
    simp only [PyData.eqvAll, Bool.and_eq_true]
    exact ⟨eqv_refl x h.1, eqvAll_refl xs h.2⟩
end

mutual
def nbD : PyData → Bool
  | .none => true
  | .int _ => true
  | .str _ => true
  | .list xs => nbAll xs
  | .tuple xs => nbAll xs
  | .bool _ => false
  | .dict _ => false
def nbAll : List PyData → Bool
  | [] => true
  | x :: xs => nbD x && nbAll xs
end
mutual
theorem eqv_nb : ∀ (d e : PyData), nbD d = true → PyData.eqv d e = true → nbD e = true → d = e
  | .none, e, _, h, _ => by cases e <;> first | rfl | (simp [PyData.eqv] at h)
  | .bool _, _, h, _, _ => by simp [nbD] at h
  | .int i, e, _, h, h2 => by cases e <;> first | (simp [PyData.eqv] at h; rw [h]; done) | (simp [PyData.eqv] at h; done) | (simp [nbD] at h2)
  | .str i, e, _, h, h2 => by cases e <;> first | (simp [PyData.eqv] at h; rw [h]; done) | (simp [PyData.eqv] at h; done)
  | .list xs, e, h1, h, h2 => by
    cases e <;> first
      | (simp only [PyData.eqv] at h
         rw [eqvAll_nb xs _ (by simpa [nbD] using h1) h (by simpa [nbD] using h2)]; done)
      | (simp [PyData.eqv] at h; done)
  | .tuple xs, e, h1, h, h2 => by
    cases e <;> first
      | (simp only [PyData.eqv] at h
         rw [eqvAll_nb xs _ (by simpa [nbD] using h1) h (by simpa [nbD] using h2)]; done)
      | (simp [PyData.eqv] at h; done)
  | .dict _, _, h, _, _ => by simp [nbD] at h
theorem eqvAll_nb : ∀ (ds es : List PyData), nbAll ds = true → PyData.eqvAll ds es = true → nbAll es = true → ds = es
  | [], es, _, h, _ => by cases es <;> first | rfl | (simp [PyData.eqvAll] at h)
  | x :: xs, es, h1, h, h2 => by
    cases es with
    | nil => simp [PyData.eqvAll] at h
    | cons y ys =>
      simp only [PyData.eqvAll, Bool.and_eq_true] at h
      simp only [nbAll, Bool.and_eq_true] at h1 h2
      rw [eqv_nb x y h1.1 h.1 h2.1, eqvAll_nb xs ys h1.2 h.2 h2.2]
end
theorem eqv_iff {d e : PyData} (hd : nbD d = true) (he : nbD e = true) (hc : d.canLay0 = true) : PyData.eqv d e = true ↔ d = e :=
  ⟨fun h => eqv_nb d e hd h he, fun h => by rw [← h]; exact eqv_refl d hc⟩
theorem canLayAll_map {α : Type} {f : α → PyData} : ∀ (xs : List α), (∀ x ∈ xs, (f x).canLay0 = true) → PyData.canLayAll0 (xs.map f) = true
  | [], _ => rfl
  | x :: xs, h => by
    simp only [List.map_cons, PyData.canLayAll0, Bool.and_eq_true]
    exact ⟨h x (by simp), canLayAll_map xs fun y hy => h y (by simp [hy])⟩
theorem nbAll_map {α : Type} {f : α → PyData} : ∀ (xs : List α), (∀ x ∈ xs, nbD (f x) = true) → nbAll (xs.map f) = true
  | [], _ => rfl
  | x :: xs, h => by
    simp only [List.map_cons, nbAll, Bool.and_eq_true]
    exact ⟨h x (by simp), nbAll_map xs fun y hy => h y (by simp [hy])⟩
theorem depthAll_map {α : Type} {f : α → PyData} {n : Nat} : ∀ (xs : List α), (∀ x ∈ xs, (f x).depth ≤ n) → PyData.depthAll (xs.map f) ≤ n
  | [], _ => Nat.zero_le n
  | x :: xs, h => by
    simp only [List.map_cons, PyData.depthAll]
    exact Nat.max_le.mpr ⟨h x (by simp), depthAll_map xs fun y hy => h y (by simp [hy])⟩
theorem shaped_mk {d : PyData} (h : d.canLay0 = true) (h2 : d.depth ≤ 64) : SeqAt.shaped d = true := by simp [SeqAt.shaped, h, h2]
theorem vec_lay (ns : List Int) : (vec ns).canLay0 = true := by
  simp only [vec, PyData.canLay0]
  exact canLayAll_map ns fun _ _ => rfl
theorem vec_depth (ns : List Int) : (vec ns).depth ≤ 1 := by
  simp only [vec, PyData.depth]
  exact Nat.succ_le_succ (depthAll_map ns fun _ _ => Nat.le_refl _)
theorem vec_nb (ns : List Int) : nbD (vec ns) = true := by
  simp only [vec, nbD]
  exact nbAll_map ns fun _ _ => rfl
theorem shaped_vec (ns : List Int) : SeqAt.shaped (vec ns) = true := shaped_mk (vec_lay ns) (Nat.le_trans (vec_depth ns) (by decide))
theorem shaped_vecs (vs : List (List Int)) : SeqAt.shaped (.list (vs.map vec)) = true := by
  refine shaped_mk ?_ ?_
  · simp only [PyData.canLay0]
    exact canLayAll_map vs fun v _ => vec_lay v
  · simp only [PyData.depth]
    exact Nat.le_trans (Nat.succ_le_succ (depthAll_map vs fun v _ => vec_depth v)) (by decide)
theorem eqv_self {d : PyData} (h : SeqAt.shaped d = true) : PyData.eqv d d = true := by
  simp only [SeqAt.shaped, Bool.and_eq_true] at h
  exact eqv_refl d h.1
theorem cutL_take {α : Type} {ds : List α} {i : Int} (h : 0 ≤ i) : cutL ds none (some i) = ds.take i.toNat := by
  obtain ⟨n, rfl⟩ := Int.eq_ofNat_of_zero_le h
  have h1 : HT.sIx ds.length ds.length (some (n : Int)) = min n ds.length := HT.sIx_nat ds.length ds.length n
  have h2 : HT.sIx ds.length 0 none = 0 := HT.sIx_none _ _
  unfold cutL
  rw [h1, h2, List.drop_zero, Nat.sub_zero]
  show List.take (min n ds.length) ds = List.take n ds
  rw [← List.take_take, List.take_length]
theorem take_j {O : Own} {P : W → Own → Prop} {j : Nat} {p : Addr} {n n0 z : Int} (b : BoxAt O j p n0) (h0 : 0 < z) (h1 : z < 2 ^ 63) (h : ∀ r m : Int, 0 ≤ r → r < z → P (.d (.int r)) (O.set j (p, .l [.int m]))) : pTake [.r (.ref p), .d (.int z)] (O.set j (p, .l [.int n])) P :=
  take_i b.set h0 h1 fun r m a c => by rw [List.set_set]; exact h r m a c
theorem rangeD_at0 {n i : Nat} {d : PyData} (h : (rangeD 0 n)[i]? = some d) : i < n ∧ d = .int (i : Nat) := by
  obtain ⟨h1, h2⟩ := rangeD_at h
  exact ⟨h1, by rw [h2, Int.zero_add]⟩
end DL

set_option Elab.async false
set_option linter.all false
set_option maxRecDepth 100000
set_option maxHeartbeats 2000000
namespace DL
open PySem PySem.Spec PyProof.Rows L2
/-! ### x in a tuple of data of any depth -/
section
variable {X : Cx} {O : Own} {P : W → Own → Prop} {w1 w2 : W}
theorem op_tupD (neg : Bool) (hu : X.A.units + 65 < cLine) : OpR X (compareOp (if neg then .NotIn else .In)) (fun x y H Q => ∃ d ds, Dp X.K H x d ∧ Dp X.K H y (.tuple ds) ∧ SeqAt.shaped d = true ∧ SeqAt.shaped (.list ds) = true ∧ Q (.bl (if neg then !ds.any fun z => PyData.eqv z d else ds.any fun z => PyData.eqv z d)) H) := by
  intro pins s σ H x y v u Q I rx ry ⟨d, ds, hd, he, sd, se, q⟩
  obtain ⟨as, r1⟩ := Dp.reads I d x v hd rx
  obtain ⟨bs, r2⟩ := Dp.reads I (.tuple ds) y u he ry
  cases neg with
  | true => exact SeqAt.notIn_tuple_reads r2 r1 (SeqAt.canLay_of_shaped se) (SeqAt.canLay_of_shaped sd) (room_in_shaped sd hu) ⟨.bl _, H, I, rfl, q⟩
  | false => exact SeqAt.in_tuple_reads r2 r1 (SeqAt.canLay_of_shaped se) (SeqAt.canLay_of_shaped sd) (room_in_shaped sd hu) ⟨.bl _, H, I, rfl, q⟩
theorem b_inTD {d : PyData} {ds : List PyData} (hu : X.A.units + 65 < cLine) (hd : SeqAt.shaped d = true) (he : SeqAt.shaped (.list ds) = true) (h : P (.d (.bool (ds.any fun z => PyData.eqv z d))) O) : BinD X (compareOp .In) (.d d) (.d (.tuple ds)) O P :=
  bind_of (op_tupD false hu) fun v1 v2 Hr H Q hS h1 h2 hQ => ⟨d, ds, (dv_mono hS.ex h1).dp, (dv_mono hS.ex h2).dp, hd, he, hQ _ _ (po_here h hS (.bl _))⟩
theorem b_niTD {d : PyData} {ds : List PyData} (hu : X.A.units + 65 < cLine) (hd : SeqAt.shaped d = true) (he : SeqAt.shaped (.list ds) = true) (h : P (.d (.bool (!ds.any fun z => PyData.eqv z d))) O) : BinD X (compareOp .NotIn) (.d d) (.d (.tuple ds)) O P :=
  bind_of (op_tupD true hu) fun v1 v2 Hr H Q hS h1 h2 hQ => ⟨d, ds, (dv_mono hS.ex h1).dp, (dv_mono hS.ex h2).dp, hd, he, hQ _ _ (po_here h hS (.bl _))⟩
end
/-! ### signs of a text -/
def signF (g : Nat → PyData) : PyData → PyData
  | .str s => match s.cps.toList with
    | [c] => g c
    | _ => .none
  | _ => .none
theorem signs_map (g : Nat → PyData) (z : Str) : (signs z).map (signF g) = z.cps.toList.map g := by
  unfold signs
  rw [List.map_map]
  rfl
theorem signs_at {z : Str} {i : Nat} {d : PyData} (h : (signs z)[i]? = some d) : ∃ c, d = .str ⟨#[c]⟩ ∧ z.cps.toList[i]? = some c := by
  unfold signs at h
  rw [List.getElem?_map] at h
  cases e : z.cps.toList[i]? with
  | none => rw [e] at h; cases h
  | some c => rw [e] at h; cases h; exact ⟨c, rfl, rfl⟩
theorem signs_len {z : Str} : (signs z).length = z.length := by simp [signs, Str.length]
theorem cutL_drop {α : Type} {ds : List α} {i : Int} (h : 0 ≤ i) : cutL ds (some i) none = ds.drop i.toNat := by
  obtain ⟨n, rfl⟩ := Int.eq_ofNat_of_zero_le h
  have h1 : HT.sIx ds.length 0 (some (n : Int)) = min n ds.length := HT.sIx_nat ds.length 0 n
  have h2 : HT.sIx ds.length ds.length none = ds.length := HT.sIx_none _ _
  unfold cutL
  rw [h1, h2]
  show List.take (ds.length - min n ds.length) (ds.drop (min n ds.length)) = ds.drop n
  by_cases hn : n ≤ ds.length
  · rw [Nat.min_eq_left hn, List.take_of_length_le (by rw [List.length_drop]; exact Nat.le_refl _)]
  · rw [Nat.min_eq_right (by omega), List.drop_length, List.drop_of_length_le (by omega), List.take_nil]
theorem cutL_mid {α : Type} {ds : List α} {i j : Int} (h : 0 ≤ i) (h2 : 0 ≤ j) : cutL ds (some i) (some j) = (ds.take j.toNat).drop i.toNat := by
  obtain ⟨n, rfl⟩ := Int.eq_ofNat_of_zero_le h
  obtain ⟨m, rfl⟩ := Int.eq_ofNat_of_zero_le h2
  have e1 : HT.sIx ds.length 0 (some (n : Int)) = min n ds.length := HT.sIx_nat ds.length 0 n
  have e2 : HT.sIx ds.length ds.length (some (m : Int)) = min m ds.length := HT.sIx_nat ds.length ds.length m
  unfold cutL
  rw [e1, e2]
  show List.take (min m ds.length - min n ds.length) (ds.drop (min n ds.length)) = (ds.take m).drop n
  rw [List.drop_take]
  by_cases hn : n ≤ ds.length
  · rw [Nat.min_eq_left hn]
    by_cases hm : m ≤ ds.length
    · rw [Nat.min_eq_left hm]
    · rw [Nat.min_eq_right (by omega), List.take_of_length_le (by rw [List.length_drop]; omega), List.take_of_length_le (by rw [List.length_drop]; omega)]
  · rw [Nat.min_eq_right (show ds.length ≤ n by omega), List.drop_length, List.drop_of_length_le (show ds.length ≤ n by omega), List.take_nil, List.take_nil]
theorem Room.u65 {k : Nat} {A : Around} (h : Room k A) : A.units + 65 < cLine := by have := h.un; omega
/-! ### data of bounded depth, of texts whose signs are told -/
def okN (ok : Str → Bool) (m : Nat) : Nat → PyData → Bool
  | _, .none => true
  | _, .int _ => true
  | _, .str z => ok z
  | n + 1, .tuple ds => decide (ds.length ≤ m) && ds.all (okN ok m n)
  | _, _ => false
section
variable {ok : Str → Bool} {m : Nat}
theorem okN_up : ∀ {n : Nat} {d : PyData}, okN ok m n d = true → okN ok m (n + 1) d = true
  | _, .none, _ => by simp [okN]
  | _, .int _, _ => by simp [okN]
  | _, .str _, h => by simpa [okN] using h
  | 0, .tuple _, h => by simp [okN] at h
  | n + 1, .tuple ds, h => by
    simp only [okN, Bool.and_eq_true, List.all_eq_true] at h
    rw [okN, Bool.and_eq_true, List.all_eq_true]
    exact ⟨h.1, fun d hd => okN_up (h.2 d hd)⟩
  | 0, .bool _, h => by simp [okN] at h
  | _ + 1, .bool _, h => by simp [okN] at h
  | 0, .list _, h => by simp [okN] at h
  | _ + 1, .list _, h => by simp [okN] at h
  | 0, .dict _, h => by simp [okN] at h
  | _ + 1, .dict _, h => by simp [okN] at h
theorem okN_le {n k : Nat} {d : PyData} (h : okN ok m n d = true) (hk : n ≤ k) : okN ok m k d = true := by
  induction hk with
  | refl => exact h
  | step _ ih => exact okN_up ih
theorem okN_lay (hs : ∀ z, ok z = true → PyData.strOk z = true) : ∀ {n : Nat} {d : PyData}, okN ok m n d = true → d.canLay0 = true ∧ d.depth ≤ n ∧ nbD d = true
  | _, .none, _ => ⟨rfl, Nat.zero_le _, rfl⟩
  | _, .int _, _ => ⟨rfl, Nat.zero_le _, rfl⟩
  | n, .str z, h => ⟨hs z (by cases n <;> simpa [okN] using h), Nat.zero_le _, rfl⟩
  | 0, .tuple _, h => by simp [okN] at h
  | n + 1, .tuple ds, h => by
    simp only [okN, Bool.and_eq_true, List.all_eq_true] at h
    have ih : ∀ d ∈ ds, d.canLay0 = true ∧ d.depth ≤ n ∧ nbD d = true := fun d hd => okN_lay hs (h.2 d hd)
    refine ⟨?_, ?_, ?_⟩
    · simp only [PyData.canLay0]
      have := canLayAll_map (f := id) ds fun d hd => (ih d hd).1
      simpa using this
    · simp only [PyData.depth]
      have := depthAll_map (f := id) (n := n) ds fun d hd => (ih d hd).2.1
      simpa using this
    · simp only [nbD]
      have := nbAll_map (f := id) ds fun d hd => (ih d hd).2.2
      simpa using this
  | 0, .bool _, h => by simp [okN] at h
  | _ + 1, .bool _, h => by simp [okN] at h
  | 0, .list _, h => by simp [okN] at h
  | _ + 1, .list _, h => by simp [okN] at h
  | 0, .dict _, h => by simp [okN] at h
  | _ + 1, .dict _, h => by simp [okN] at h
end
end DL

set_option Elab.async false
set_option linter.all false
set_option maxRecDepth 100000
set_option maxHeartbeats 4000000
namespace DL
open PySem PySem.Spec PyProof.Rows L2
/-! ### a tuple once, a tuple no time -/
theorem tmul_one (l : Addr) (items : Array Value) (n : Nat) (dd : Option Addr) (sl : Array (Option Value)) (u : Tok) :
    Meets (Builtin.«tuple.__mul__» ⟨[.ref l, .int 1 u], []⟩) (fun _ R s => s.heap.get? l = some { cls := .type "tuple", dict := dd, data := .seq items n, slots := sl } ∧ R (.ok (.ret (Value.ref l))) s) :=
  .of_wp fun prog w A R s h => by
    obtain ⟨hp, g, d, tk, os⟩ := s
    obtain ⟨hl, h⟩ := h
    have f1 := AutoSeq1.idx_int
    wp_walk using wpAny_loadPart' hl
    exact ⟨_, rfl, h⟩
theorem tmul_zero (l : Addr) (items : Array Value) (n : Nat) (dd : Option Addr) (sl : Array (Option Value)) (u : Tok) (hi : items.isEmpty = false) :
    Meets (Builtin.«tuple.__mul__» ⟨[.ref l, .int 0 u], []⟩) (fun _ R s => s.heap.get? l = some { cls := .type "tuple", dict := dd, data := .seq items n, slots := sl } ∧
      R (.ok (.ret (Value.ref s.heap.objs.size))) { s with heap := s.heap.push { cls := Value.type "tuple", data := Data.seq #[] }, toks := s.toks }) :=
  .of_wp fun prog w A R s h => by
    obtain ⟨hp, g, d, tk, os⟩ := s
    obtain ⟨hl, h⟩ := h
    have f1 := AutoSeq1.idx_int
    wp_walk using wpAny_loadPart' hl
    exact ⟨_, rfl, h⟩
section
variable {X : Cx} {O : Own} {P : W → Own → Prop}
theorem op_tmul (one : Bool) : OpR X (binaryOp .Mult) (fun x y H Q => ∃ l xs, x = .ref l ∧ y = .int (if one then 1 else 0) ∧ SqT X.K H l xs ∧ xs ≠ [] ∧ (if one then Q (.ref l) H else ∀ p, H p = none → Q (.ref p) (upd H p (.tup [])))) := by
  intro pins s σ H x y v u Q I rx ry ⟨l, xs, ex, ey, hT, hne, q⟩
  subst ex ey
  cases rx
  obtain ⟨t, rfl⟩ := ry
  obtain ⟨its, r, ⟨⟨cls, dd, data, sl⟩, ho, hc, n, hd⟩, hs⟩ := I.tuple hT
  simp only at hc hd
  subst hc hd
  have hi : its.toArray.isEmpty = false := by
    cases its with
    | nil => exact absurd (List.eq_nil_of_length_eq_zero (by rw [r.length]; rfl)) hne
    | cons a b => rfl
  cases one with
  | true =>
    exact wpAny_binaryOp_repeat_ref (T := "tuple") (U := "int") (by decide) ⟨_, ho, rfl⟩ (fun s' => typeIs_int s' 1 t) noFill_tuple_mul F.fills_int_mul F.slot_int_rmul repeat_tuple F.slot_int_index.lookup
      (call_meets F.slot_int_rmul (typeIs_int s 1 t) F.entry_int_rmul (F.args_int_rmul_2 _ _) (int_rmul_tuple 1 t l its.toArray n dd sl)
        ⟨ho, rfl, ⟨_, ho, rfl⟩, call_meets F.slot_tuple_mul ⟨_, ho, rfl⟩ F.entry_tuple_mul (F.args_tuple_mul_2 _ _) (tmul_one l its.toArray n dd sl t) ⟨ho, ⟨.ref l, H, I, rfl, q⟩⟩⟩)
  | false =>
    exact wpAny_binaryOp_repeat_ref (T := "tuple") (U := "int") (by decide) ⟨_, ho, rfl⟩ (fun s' => typeIs_int s' 0 t) noFill_tuple_mul F.fills_int_mul F.slot_int_rmul repeat_tuple F.slot_int_index.lookup
      (call_meets F.slot_int_rmul (typeIs_int s 0 t) F.entry_int_rmul (F.args_int_rmul_2 _ _) (int_rmul_tuple 0 t l its.toArray n dd sl)
        ⟨ho, rfl, ⟨_, ho, rfl⟩, call_meets F.slot_tuple_mul ⟨_, ho, rfl⟩ F.entry_tuple_mul (F.args_tuple_mul_2 _ _) (tmul_zero l its.toArray n dd sl t hi) ⟨ho,
          ⟨.ref s.heap.objs.size, _, I.laid (t' := s.toks) (o := .tup []) (fun b ob q => Heap.get?_push_of_some _ q) (Nat.le_refl _) ⟨Nat.zero_le _, [], .nil, IsTup.new _ _⟩, rfl, q _ (I.hok.fresh (Nat.le_refl _))⟩⟩⟩)
theorem b_tmul1 {ds : List PyData} (hne : ds ≠ []) (h : P (.d (.tuple ds)) O) : BinD X (binaryOp .Mult) (.d (.tuple ds)) (.d (.int 1)) O P :=
  bind_of (op_tmul true) fun v1 v2 Hr H Q hS k1 k2 hQ => by
    cases k2
    cases k1 with
    | tup e1 a1 => exact ⟨_, _, rfl, rfl, same_t hS.ex e1, fun q => hne (a1.nil_iff.mp q), hQ _ _ (po_here h hS (.tup e1 a1))⟩
theorem b_tmul0 {ds : List PyData} (hne : ds ≠ []) (h : P (.d (.tuple [])) O) : BinD X (binaryOp .Mult) (.d (.tuple ds)) (.d (.int 0)) O P :=
  bind_of (op_tmul false) fun v1 v2 Hr H Q hS k1 k2 hQ => by
    cases k2
    cases k1 with
    | tup e1 a1 => exact ⟨_, _, rfl, rfl, same_t hS.ex e1, fun q => hne (a1.nil_iff.mp q), fun p hp => hQ _ _ (po_new h hS hp (.tup (SqT.of upd_same) .nil))⟩
/-! ### a text some times -/
theorem fold_size {α : Type} (b : Array α) : ∀ (n : Nat) (a : Array α), ((List.replicate n b).foldl (· ++ ·) a).size = a.size + n * b.size
  | 0, a => by simp
  | n + 1, a => by
    rw [List.replicate_succ, List.foldl_cons, fold_size b n, Array.size_append, Nat.succ_mul]
    omega
theorem fold_list {α : Type} (b : Array α) : ∀ (n : Nat) (a : Array α), ((List.replicate n b).foldl (· ++ ·) a).toList = a.toList ++ (List.replicate n b.toList).flatten
  | 0, a => by simp
  | n + 1, a => by
    rw [List.replicate_succ, List.foldl_cons, fold_list b n, Array.toList_append, List.replicate_succ, List.flatten_cons, List.append_assoc]
def repS (x : Str) (n : Nat) : Str := ⟨(List.replicate n x.cps).foldl (· ++ ·) #[]⟩
theorem op_smul : OpR X (binaryOp .Mult) (fun x y H Q => ∃ (z : Str) (k : Int), x = .str z ∧ y = .int k ∧ 2 ≤ k ∧ k ≤ 1000 ∧ 0 < z.length ∧ z.length ≤ 1000 ∧ Q (.str (repS z k.toNat)) H) := by
  intro pins s σ H x y v u Q I rx ry ⟨z, k, ex, ey, h1, h2, h3, h4, q⟩
  subst ex ey
  obtain ⟨t, rfl⟩ := rx
  obtain ⟨t2, rfl⟩ := ry
  have hm : z.length * k.toNat ≤ 1000 * 1000 := Nat.mul_le_mul h4 (by omega)
  refine P.mul_str (by rw [decide_eq_false (by omega), decide_eq_false (by omega)]; rfl) (fun _ _ => ?_) (fun _ _ => ?_) ?_
  · have : (1000 : Int) ≤ (2 ^ 63 - 1) / k := by
      refine Int.le_ediv_of_mul_le (by omega) ?_
      omega
    omega
  · unfold Builtin.Str.tooLong
    rw [sizeLine_eq]
    exact decide_eq_false (by omega)
  · rw [if_neg (by omega), if_neg (by simp; omega)]
    refine ⟨?_, ?_⟩
    · show ((List.replicate k.toNat z.cps).foldl (· ++ ·) #[]).size ≤ sizeLine
      have e : z.cps.size = z.length := rfl
      rw [fold_size, sizeLine_eq, e, Array.size_empty, Nat.mul_comm]
      omega
    · exact ⟨.str (repS z k.toNat), H, I.tok _, ⟨_, rfl⟩, q⟩
theorem repS_len {x : Str} {n : Nat} : (repS x n).length = n * x.length := by
  show ((List.replicate n x.cps).foldl (· ++ ·) #[]).size = _
  rw [fold_size]
  show 0 + n * x.length = _
  omega
theorem repS_list {x : Str} {n : Nat} : (repS x n).cps.toList = (List.replicate n x.cps.toList).flatten := by
  show ((List.replicate n x.cps).foldl (· ++ ·) #[]).toList = _
  rw [fold_list]
  rfl
theorem b_smul {z : Str} {k : Int} (h1 : 2 ≤ k) (h2 : k ≤ 1000) (h3 : 0 < z.length) (h4 : z.length ≤ 1000) (h : P (.d (.str (repS z k.toNat))) O) : BinD X (binaryOp .Mult) (.d (.str z)) (.d (.int k)) O P :=
  bind_of op_smul fun v1 v2 Hr H Q hS k1 k2 hQ => by
    cases k1
    cases k2
    exact ⟨_, _, rfl, rfl, h1, h2, h3, h4, hQ _ _ (po_here h hS (.str _))⟩
end
end DL

set_option Elab.async false
set_option linter.all false
set_option maxRecDepth 100000
set_option maxHeartbeats 2000000
namespace DL
open PySem PySem.Spec PyProof.Rows L2
section
variable {X : Cx} {τ : Tau} {O : Own} {P : W → Own → Prop} {D : DEn} {elt iter : Expr} {ifs : List Expr} {scope : Scope} {pos pos2 tp tp2 spos : Pos} {y y2 : Str} {kk : Nat}
theorem ds_setLc1O (k i : Nat) {z : Str} {zp : Pos} (hN : X.N.Nodup) (ok : BlkOk X.N X.env.scope scope [(y, i)])
    (h : IterD X (.Name y tp) iter τ O fun ds O1 => LcD X τ O1 elt ifs scope [i] (gName i) (fun p acc O2 => D.nx (τ.set k (some (.r (.ref p)))) ((p, .l acc) :: O2)) ds)
    (hg : ∀ (s : Shared) (H : Hp) (C : Addr) (cl : List (Str × Addr)) (fp : List Addr), PG (blk X scope s H C cl fp) (.Name y tp) (gName i) := by exact fun _ _ _ _ _ => pg_name (by assumption) rfl (by first | exact Or.inl rfl | exact Or.inr rfl))
    (hsw : swapsWith (.ListComp elt [⟨.Name y tp, iter, ifs, 0⟩] scope pos) (some (.Name z zp)) spos.line X.env = pure true := by exact sw_true rfl rfl rfl (by decide +kernel))
    (hc : X.calm = true := by rfl) (hs : ∀ x, foldedSetIterable iter X.env x = pure x := by intro _; rfl) (hy : X.N[k]? = some z := by rfl) (hyl : X.env.scope.names.lookup z = some .local := by rfl) :
    DS X τ O (.Assign [.Name z zp] (.ListComp elt [⟨.Name y tp, iter, ifs, 0⟩] scope pos) spos) D := ds_setLcO k [(y, i)] (gName i) hN ok hg h hsw hc hs hy hyl
end
end DL

set_option Elab.async false
set_option linter.all false
set_option maxRecDepth 100000
set_option maxHeartbeats 2000000
namespace DL
open PySem PySem.Spec PyProof.Rows L2
/-! ### dicts of data -/
section
variable {κ : Type} [DecidableEq κ]
def valD (kvs : List (κ × PyData)) (k : κ) : Option PyData := (kvs.find? fun kv => decide (kv.1 = k)).map (·.2)
def putD (kvs : List (κ × PyData)) (k : κ) (d : PyData) : List (κ × PyData) :=
  if (kvs.any fun kv => decide (kv.1 = k)) = true then kvs.map (fun kv => if kv.1 = k then (kv.1, d) else kv) else kvs ++ [(k, d)]
theorem valD_nil {k : κ} : valD ([] : List (κ × PyData)) k = none := rfl
theorem valD_pos {p : κ × PyData} {r : List (κ × PyData)} {k : κ} (e : p.1 = k) : valD (p :: r) k = some p.2 := by simp [valD, List.find?_cons, e]
theorem valD_neg {p : κ × PyData} {r : List (κ × PyData)} {k : κ} (e : ¬ p.1 = k) : valD (p :: r) k = valD r k := by simp [valD, List.find?_cons, e]
theorem valD_any (k : κ) : ∀ kvs : List (κ × PyData), (kvs.any fun kv => decide (kv.1 = k)) = (valD kvs k).isSome
  | [] => rfl
  | p :: r => by
    by_cases e : p.1 = k
    · simp [valD_pos e, e]
    · simp [valD_neg e, e, valD_any k r]
theorem valD_map (k j : κ) (y : PyData) : ∀ kvs : List (κ × PyData), valD (kvs.map fun kv => if kv.1 = k then (kv.1, y) else kv) j = (valD kvs j).map fun x => if j = k then y else x
  | [] => rfl
  | p :: r => by
    rw [List.map_cons]
    by_cases e : p.1 = k
    · rw [if_pos e]
      by_cases e2 : p.1 = j
      · rw [valD_pos (p := (p.1, y)) e2, valD_pos e2]
        have : j = k := e2.symm.trans e
        simp [this]
      · rw [valD_neg (p := (p.1, y)) e2, valD_neg e2, valD_map k j y r]
    · rw [if_neg e]
      by_cases e2 : p.1 = j
      · rw [valD_pos e2, valD_pos e2]
        have : ¬ j = k := fun q => e (e2.trans q)
        simp [this]
      · rw [valD_neg e2, valD_neg e2, valD_map k j y r]
theorem valD_snoc (k j : κ) (y : PyData) : ∀ kvs : List (κ × PyData), valD kvs k = none → valD (kvs ++ [(k, y)]) j = if j = k then some y else valD kvs j
  | [], _ => by
    by_cases e : j = k
    · rw [if_pos e, List.nil_append, valD_pos e.symm]
    · rw [if_neg e, List.nil_append, valD_neg (fun q => e q.symm)]
  | p :: r, h => by
    have e0 : ¬ p.1 = k := fun q => by rw [valD_pos q] at h; cases h
    rw [valD_neg e0] at h
    rw [List.cons_append]
    by_cases e2 : p.1 = j
    · rw [valD_pos e2, valD_pos e2, if_neg (fun q => e0 (e2.trans q))]
    · rw [valD_neg e2, valD_neg e2, valD_snoc k j y r h]
theorem valD_put (kvs : List (κ × PyData)) (k j : κ) (y : PyData) : valD (putD kvs k y) j = if j = k then some y else valD kvs j := by
  unfold putD
  rw [valD_any]
  by_cases h : (valD kvs k).isSome = true
  · rw [if_pos h, valD_map]
    by_cases e : j = k
    · subst e
      obtain ⟨z, hz⟩ := Option.isSome_iff_exists.mp h
      rw [hz]
      simp
    · simp [e]
  · rw [if_neg h, valD_snoc _ _ _ _ (by simpa using h)]
theorem length_putD (kvs : List (κ × PyData)) (k : κ) (d : PyData) : (putD kvs k d).length ≤ kvs.length + 1 := by
  unfold putD
  split <;> simp
variable {K : PySem.W.Frag} {Hr : Hp}
theorem KD.val (k : κ) : ∀ {vs : List (κ × V)} {kvs : List (κ × PyData)}, KD K Hr vs kvs → (valV vs k = none ∧ valD kvs k = none) ∨ ∃ v d, valV vs k = some v ∧ valD kvs k = some d ∧ Dv K Hr v d
  | _, _, .nil => .inl ⟨rfl, rfl⟩
  | a :: _, b :: _, .cons q t => by
    by_cases e : b.1 = k
    · exact .inr ⟨a.2, b.2, valV_pos (q.1.trans e), valD_pos e, q.2⟩
    · rw [valV_neg (fun z => e (q.1.symm.trans z)), valD_neg e]
      exact KD.val k t
theorem KD.any (k : κ) {vs : List (κ × V)} {kvs : List (κ × PyData)} (h : KD K Hr vs kvs) : (vs.any fun kv => decide (kv.1 = k)) = (kvs.any fun kv => decide (kv.1 = k)) := by
  rw [valV_any, valD_any]
  rcases h.val k with ⟨a, b⟩ | ⟨v, d, a, b, _⟩ <;> rw [a, b] <;> rfl
theorem KD.len {vs : List (κ × V)} {kvs : List (κ × PyData)} (h : KD K Hr vs kvs) : vs.length = kvs.length := Paired.length h
theorem KD.snoc : ∀ {vs : List (κ × V)} {kvs : List (κ × PyData)} {k : κ} {v : V} {d : PyData}, KD K Hr vs kvs → Dv K Hr v d → KD K Hr (vs ++ [(k, v)]) (kvs ++ [(k, d)])
  | _, _, _, _, _, .nil, g => .cons ⟨rfl, g⟩ .nil
  | _, _, _, _, _, .cons q t, g => .cons q (KD.snoc t g)
theorem KD.maps {k : κ} {v : V} {d : PyData} (g : Dv K Hr v d) : ∀ {vs : List (κ × V)} {kvs : List (κ × PyData)}, KD K Hr vs kvs → KD K Hr (vs.map fun kv => if kv.1 = k then (kv.1, v) else kv) (kvs.map fun kv => if kv.1 = k then (kv.1, d) else kv)
  | _, _, .nil => .nil
  | a :: _, b :: _, .cons q t => by
    rw [List.map_cons, List.map_cons]
    refine .cons ?_ (KD.maps g t)
    by_cases e : b.1 = k
    · rw [if_pos e, if_pos (q.1.trans e)]
      exact ⟨q.1, g⟩
    · rw [if_neg e, if_neg (fun z => e (q.1.symm.trans z))]
      exact q
theorem KD.put {vs : List (κ × V)} {kvs : List (κ × PyData)} {k : κ} {v : V} {d : PyData} (h : KD K Hr vs kvs) (g : Dv K Hr v d) : KD K Hr (putK vs k v) (putD kvs k d) := by
  unfold putK putD
  rw [h.any k]
  split
  · exact KD.maps g h
  · exact h.snoc g
end
def keyD : Key → PyData
  | .inl i => .int i
  | .inr x => .str x
theorem keyD_v {K : PySem.W.Frag} {Hr : Hp} {v : V} {k : Key} (h : Dv K Hr v (keyD k)) : v = kV k := by
  cases k <;> (cases h; rfl)
section
variable {X : Cx} {τ : Tau} {O : Own} {P : W → Own → Prop} {D : DEn} {a b c e : Expr} {pos : Pos} {w w1 w2 : W}
/-- a dict, owned, keys ints and texts -/
def DkAt (O : Own) (w : W) (kvs : List (Key × PyData)) : Prop := ∃ (p : Addr) (j : Nat), w = .r (.ref p) ∧ O[j]? = some (p, Cell.k kvs)
theorem dkat {p : Addr} (j : Nat) {kvs : List (Key × PyData)} (h : O[j]? = some (p, .k kvs)) : DkAt O (.r (.ref p)) kvs := ⟨p, j, rfl, h⟩
theorem DkAt.at {K : PySem.W.Frag} {Hr H : Hp} {v : V} {kvs : List (Key × PyData)} (r : DkAt O w kvs) (S : Sep K Hr O H) (k : WOk K Hr v w) : ∃ p vs, v = .ref p ∧ H p = some (.dK vs) ∧ KD K Hr vs kvs := by
  obtain ⟨p, j, rfl, hj⟩ := r
  cases k
  obtain ⟨vs, h1, h2⟩ := S.cell hj
  exact ⟨_, _, rfl, h1, h2⟩
theorem b_inK {k : Key} {kvs : List (Key × PyData)} (hu : X.A.units + 1 < cLine) (r : DkAt O w kvs) (h : P (.d (.bool (valD kvs k).isSome)) O) : BinD X (compareOp .In) (.d (keyD k)) w O P :=
  bind_of (r := fun y x H Q => ∃ a o, x = .ref a ∧ DGet H a y o ∧ Q (.bl o.isSome) H) (fun pins s σ H y x u v Q I ry rx ⟨a, o, ex, g, q⟩ => by
    subst ex
    obtain rfl : v = Value.ref a := rx
    exact d_in hu I g ry fun s3 I3 => ⟨.bl o.isSome, H, I3, rfl, q⟩) fun v1 v2 Hr H Q hS h1 h2 hQ => by
    obtain ⟨p, vs, rfl, e1, kd⟩ := r.at hS h2
    obtain rfl := keyD_v h1
    refine ⟨p, _, rfl, DGet.k e1, hQ _ _ (po_here h hS ?_)⟩
    rcases kd.val k with ⟨x, y⟩ | ⟨v, d, x, y, _⟩ <;> rw [x, y] <;> exact .bl _
theorem b_niK {k : Key} {kvs : List (Key × PyData)} (hu : X.A.units + 1 < cLine) (r : DkAt O w kvs) (h : P (.d (.bool (!(valD kvs k).isSome))) O) : BinD X (compareOp .NotIn) (.d (keyD k)) w O P :=
  bind_of (r := fun y x H Q => ∃ a o, x = .ref a ∧ DGet H a y o ∧ Q (.bl (!o.isSome)) H) (fun pins s σ H y x u v Q I ry rx ⟨a, o, ex, g, q⟩ => by
    subst ex
    obtain rfl : v = Value.ref a := rx
    exact d_notIn hu I g ry fun s3 I3 => ⟨.bl (!o.isSome), H, I3, rfl, q⟩) fun v1 v2 Hr H Q hS h1 h2 hQ => by
    obtain ⟨p, vs, rfl, e1, kd⟩ := r.at hS h2
    obtain rfl := keyD_v h1
    refine ⟨p, _, rfl, DGet.k e1, hQ _ _ (po_here h hS ?_)⟩
    rcases kd.val k with ⟨x, y⟩ | ⟨v, d, x, y, _⟩ <;> rw [x, y] <;> exact .bl _
/-- d[k], the key there -/
theorem de_dget (hu : X.A.units + 1 < cLine) (h : DE X τ O a fun w1 O1 => DE X τ O1 b fun w2 O2 => ∃ (kvs : List (Key × PyData)) (k : Key) (d : PyData), DkAt O2 w1 kvs ∧ w2 = .d (keyD k) ∧ valD kvs k = some d ∧ P (.d d) O2) (hs : NoSl b := by exact fun _ _ => rfl) : DE X τ O (.Subscript a b pos) P := by
  refine ⟨?_⟩
  intro σ Hr H Q hE hS hQ pins s I
  refine (pe_dget hu pe_te pe_te hs).run pins s σ H Q I ?_
  refine h σ Hr H _ hE hS fun x H1 ⟨w1, O1, Hr1, h1, e1, s1, k1⟩ => ?_
  refine h1 σ Hr1 H1 _ (hE.mono e1) s1 fun y H2 ⟨w2, O2, Hr2, ⟨kvs, k, d, r, hw, hv, hp⟩, e2, s2, k2⟩ => ?_
  obtain ⟨p, vs, rfl, q1, kd⟩ := r.at s2 (k1.mono e2)
  subst hw
  obtain rfl := keyD_v k2
  rcases kd.val k with ⟨_, z⟩ | ⟨v, d', z1, z2, z3⟩
  · rw [hv] at z; cases z
  · rw [hv] at z2
    cases z2
    exact ⟨p, v, rfl, by rw [← z1]; exact DGet.k q1, hQ _ _ ⟨.d d, O2, Hr2, hp, e1.trans e2, s2, z3⟩⟩
/-! ### dict comprehensions -/
theorem dc_it {J : It} {n : Nat} {G : Hp → Prop} {Y : Nat → Hp → V → Hp → Prop} (w : Walk J n G Y) {g : TG} {tt : TT} {tk tv : TE} {vs : List Nat} {σ : L2.St} {H1 : Hp} {D : Addr} {Qd : Hp → Prop} (Pv : Nat → Hp → Prop) (h0 : Pv 0 (upd H1 D (.dK []))) (hG : ∀ i H, i ≤ n → Pv i H → G H)
    (hs : ∀ i x H H', i < n → Pv i H → Y i H x H' → g x (wipe σ vs) H' fun σ2 H2 => wipe σ2 vs = wipe σ vs ∧ tt σ2 H2 fun b H3 =>
      if b = true then tk σ2 H3 fun y H4 => tv σ2 H4 fun z H5 => ∃ kvs k, y = kV k ∧ H5 D = some (.dK kvs) ∧ kvs.length < sizeLine ∧ Pv (i + 1) (upd H5 D (.dK (putK kvs k z))) else Pv (i + 1) H3) (hd : ∀ H, Pv n H → Qd H) :
    ∃ W : Nat → Nat → Hp → Prop, (∃ m, W 0 m (upd H1 D (.dK []))) ∧ ∀ i m H, W i m H →
      (J.stop i H ∧ Qd H) ∨ (J.go i H ∧ ∃ Nx : Hp → Prop, (∀ H', Nx H' → ∃ m', m' < m ∧ W (i + 1) m' H') ∧ ∀ x H', J.yld i H x H' → g x (wipe σ vs) H' fun σ2 H2 => wipe σ2 vs = wipe σ vs ∧ tt σ2 H2 fun b H3 =>
        if b = true then tk σ2 H3 fun y H4 => tv σ2 H4 fun z H5 => ∃ kvs k, y = kV k ∧ H5 D = some (.dK kvs) ∧ kvs.length < sizeLine ∧ Nx (upd H5 D (.dK (putK kvs k z))) else Nx H3) := by
  refine ⟨fun i m H => m = n - i ∧ i ≤ n ∧ Pv i H, ⟨n, by simp, Nat.zero_le _, h0⟩, ?_⟩
  rintro i m H ⟨rfl, hi, p⟩
  have q := hG i H hi p
  by_cases hlt : i < n
  · refine .inr ⟨w.goes i H hlt q, Pv (i + 1), fun H' p' => ⟨n - (i + 1), by omega, rfl, hlt, p'⟩, fun x H' y => hs i x H H' hlt p (w.yields i H x H' hlt q y)⟩
  · have e : i = n := by omega
    subst e
    exact .inl ⟨w.stops H q, hd H p⟩
variable {kx vx t iter : Expr} {ifs : List Expr} {scope : Scope} {own : List (Str × Nat)} {spos : Pos} {g : TG}
/-- what a dict comprehension makes -/
def dcF (kf : PyData → Key) (vf : PyData → PyData) (kp : PyData → Bool) (ds : List PyData) : List (Key × PyData) := ds.foldl (fun acc d => if kp d = true then putD acc (kf d) (vf d) else acc) []
def DcD (X : Cx) (τ : Tau) (O : Own) (kx vx : Expr) (ifs : List Expr) (scope : Scope) (vs : List Nat) (g : TG) (P : Addr → List (Key × PyData) → Own → Prop) (ds : List PyData) : Prop :=
  ∃ (kf : PyData → Key) (vf : PyData → PyData) (kp : PyData → Bool), ds.length < sizeLine ∧
    (∀ (i : Nat) (d : PyData), ds[i]? = some d → ∃ τ2, TgOk X.K g vs d (wipeT τ vs) τ2 ∧ ∀ (p : Addr) (acc : List (Key × PyData)) (s : Shared) (H : Hp) (C : Addr) (cl : List (Str × Addr)) (fp : List Addr),
      DTs (blk X scope s H C cl fp) τ2 ((p, .k acc) :: O) ifs (fun b O3 => b = kp d ∧ O3 = (p, .k acc) :: O) ∧
      (kp d = true → DE (blk X scope s H C cl fp) τ2 ((p, .k acc) :: O) kx (fun w O4 => w = .d (keyD (kf d)) ∧ O4 = (p, .k acc) :: O) ∧
        DE (blk X scope s H C cl fp) τ2 ((p, .k acc) :: O) vx (fun w O4 => w = .d (vf d) ∧ O4 = (p, .k acc) :: O))) ∧
    ∀ p, P p (dcF kf vf kp ds) O
theorem fold_len (kf : PyData → Key) (vf : PyData → PyData) (kp : PyData → Bool) : ∀ (ds : List PyData) (acc : List (Key × PyData)), (ds.foldl (fun acc d => if kp d = true then putD acc (kf d) (vf d) else acc) acc).length ≤ acc.length + ds.length
  | [], acc => Nat.le_refl _
  | d :: ds, acc => by
    rw [List.foldl_cons]
    refine Nat.le_trans (fold_len kf vf kp ds _) ?_
    have := length_putD acc (kf d) (vf d)
    simp only [List.length_cons]
    split <;> omega
theorem de_dcO (own : List (Str × Nat)) (g : TG) (hN : X.N.Nodup) (ok : BlkOk X.N X.env.scope scope own) (hg : ∀ (s : Shared) (H : Hp) (C : Addr) (cl : List (Str × Addr)) (fp : List Addr), PG (blk X scope s H C cl fp) t g)
    (h : IterD X t iter τ O fun ds O1 => DcD X τ O1 kx vx ifs scope (own.map (·.2)) g (fun p acc O2 => P (.r (.ref p)) ((p, .k acc) :: O2)) ds) (hc : X.calm = true := by rfl) (hs : ∀ x, foldedSetIterable iter X.env x = pure x := by intro _; rfl) :
    DE X τ O (.DictComp kx vx [⟨t, iter, ifs, 0⟩] scope pos) P := by
  refine ⟨?_⟩
  intro σ Hr H Q hE hS hQ pins s I
  refine (pe_dc (own := own) (tt := tIfs X scope ifs) (tk := tElt X scope kx) (tv := tElt X scope vx) hc hN pi_ti ok hg (fun s H C cl fp => ⟨fun pins s1 σ H1 Q I h => h s H C cl fp pins s1 I⟩) (fun s H C cl fp => ⟨fun pins s1 σ H1 Q I h => h s H C cl fp pins s1 I⟩) (fun s H C cl fp => ⟨fun pins s1 σ H1 Q I h => h s H C cl fp pins s1 I⟩) hs).run pins s σ H Q I ?_
  refine h σ Hr H _ hE hS fun J H1 ds O1 Hr1 ⟨kf, vf, kp, hz, hstep, hend⟩ e1 s1 ok => ?_
  intro Dl hD
  refine dc_it (g := g) (vs := own.map (·.2)) (σ := σ) (tt := tIfs X scope ifs) (tk := tElt X scope kx) (tv := tElt X scope vx) (Qd := fun H' => Q (.ref Dl) H') ok (fun i H' => ∃ (Hr' : Hp), Same Hr1 Hr' ∧ Sep X.K Hr' ((Dl, .k ((ds.take i).foldl (fun acc d => if kp d = true then putD acc (kf d) (vf d) else acc) [])) :: O1) H') ⟨Hr1, Same.refl _, s1.newOwn (c := .k []) hD ⟨[], upd_same, .nil⟩⟩ (fun i H' _ ⟨Hr', e, s'⟩ => fun a o q => s'.ex a o (e a o q)) ?_ ?_
  · intro i x H2 H3 hi ⟨Hr', e, s'⟩ y
    obtain ⟨d, Hr2, hd, e2, s2, kd⟩ := y.sep e s'
    obtain ⟨τ2, htg, hb⟩ := hstep i d hd
    have e3 : Same Hr Hr2 := (e1.trans e).trans e2
    refine htg x (wipe σ (own.map (·.2))) Hr2 H3 _ ((hE.mono e3).wiped (own.map (·.2))) s2.ex kd ?_
    intro σ' hE' hw
    refine ⟨hw σ rfl, ?_⟩
    have eN : (ds.take (i + 1)).foldl (fun acc d => if kp d = true then putD acc (kf d) (vf d) else acc) [] = if kp d = true then putD ((ds.take i).foldl (fun acc d => if kp d = true then putD acc (kf d) (vf d) else acc) []) (kf d) (vf d) else (ds.take i).foldl (fun acc d => if kp d = true then putD acc (kf d) (vf d) else acc) [] := by
      rw [List.take_succ, hd, List.foldl_append]
      rfl
    have hl := fold_len kf vf kp (ds.take i) []
    rw [eN]
    generalize (ds.take i).foldl (fun acc d => if kp d = true then putD acc (kf d) (vf d) else acc) [] = acc at s2 hl ⊢
    intro s0 H0 C cl fp
    refine (hb Dl acc s0 H0 C cl fp).1 σ' Hr2 H3 _ hE' s2 fun k H4 ⟨O4, Hr4, ⟨hk, p4⟩, e4, s4⟩ => ?_
    subst p4
    cases k with
    | true =>
      rw [if_pos rfl]
      rw [if_pos hk.symm]
      intro s0 H0 C cl fp
      obtain ⟨m1, m2⟩ := (hb Dl acc s0 H0 C cl fp).2 hk.symm
      refine m1 σ' Hr4 H4 _ (hE'.mono e4) s4 fun y H5 ⟨w, O5, Hr5, ⟨hw, ho⟩, e5, s5, k5⟩ => ?_
      subst hw ho
      intro s0 H0 C cl fp
      obtain ⟨m1, m2⟩ := (hb Dl acc s0 H0 C cl fp).2 hk.symm
      refine m2 σ' Hr5 H5 _ (hE'.mono (e4.trans e5)) s5 fun z H6 ⟨w, O6, Hr6, ⟨hw, ho⟩, e6, s6, k6⟩ => ?_
      subst hw ho
      obtain ⟨us, u1, u2⟩ := s6.cell (j := 0) rfl
      have hlen : us.length < sizeLine := by
        rw [u2.len]
        refine Nat.lt_of_le_of_lt hl (Nat.lt_of_le_of_lt ?_ hz)
        simp [List.length_take]
        omega
      exact ⟨us, kf d, keyD_v k5, u1, hlen, Hr6, (((e.trans e2).trans e4).trans e5).trans e6, s6.put (j := 0) rfl ⟨_, upd_same, u2.put k6⟩⟩
    | false =>
      rw [if_neg Bool.false_ne_true, if_neg (by rw [← hk]; exact Bool.false_ne_true)]
      exact ⟨Hr4, (e.trans e2).trans e4, s4⟩
  · intro H' ⟨Hr', e, s'⟩
    rw [List.take_length] at s'
    exact hQ _ _ ⟨_, _, Hr', hend Dl, e1.trans e, s', rfl⟩
theorem de_dc1 {y : Str} {tp : Pos} (i : Nat) (hN : X.N.Nodup) (ok : BlkOk X.N X.env.scope scope [(y, i)])
    (h : IterD X (.Name y tp) iter τ O fun ds O1 => DcD X τ O1 kx vx ifs scope [i] (gName i) (fun p acc O2 => P (.r (.ref p)) ((p, .k acc) :: O2)) ds)
    (hg : ∀ (s : Shared) (H : Hp) (C : Addr) (cl : List (Str × Addr)) (fp : List Addr), PG (blk X scope s H C cl fp) (.Name y tp) (gName i) := by exact fun _ _ _ _ _ => pg_name (by assumption) rfl (by first | exact Or.inl rfl | exact Or.inr rfl)) (hc : X.calm = true := by rfl) (hs : ∀ x, foldedSetIterable iter X.env x = pure x := by intro _; rfl) :
    DE X τ O (.DictComp kx vx [⟨.Name y tp, iter, ifs, 0⟩] scope pos) P := de_dcO [(y, i)] (gName i) hN ok hg h hc hs
end
/-! ### texts by their codes -/
open SX
abbrev sd (l : List Nat) : PyData := .str (S l)
section
variable {X : Cx} {O : Own} {P : W → Own → Prop} {w : W}
theorem m_find3 {x y : Str} {i : Int} (h : P (.d (.int (Txt.find3 x y i))) O) : MetD X "str" "str.find" (.d (.str x)) [.d (.str y), .d (.int i)] O P :=
  metd_of mt_find3 fun v vs Hr H Q hS k0 k1 hQ => by
    cases k0
    cases k1 with
    | cons k1 k2 =>
      cases k2 with
      | cons k2 k3 =>
        cases k3
        cases k1
        cases k2
        exact ⟨x, y, i, rfl, rfl, hQ _ _ (po_here h hS (.int _))⟩
theorem m_removeprefix {x y : Str} (hl : x.length ≤ sizeLine) (h : P (.d (.str (Txt.removeprefix x y))) O) : MetD X "str" "str.removeprefix" (.d (.str x)) [.d (.str y)] O P :=
  metd_of mt_removeprefix fun v vs Hr H Q hS k0 k1 hQ => by
    cases k0
    cases k1 with
    | cons k1 k2 =>
      cases k2
      cases k1
      exact ⟨x, y, rfl, rfl, hl, hQ _ _ (po_here h hS (.str _))⟩
end
theorem lit_S (x : Str) : x = S x.cps.toList := (S_tl x).symm
theorem slice_both {a : List Nat} {i j : Int} (h : 0 ≤ i) (h2 : 0 ≤ j) : Txt.slice (S a) (some i) (some j) = S ((a.take j.toNat).drop i.toNat) := by
  have hl : (S a).length = a.length := S_len a
  have e1 : ∀ i' j' : Int, min i' (a.length : Int) = min i (a.length : Int) → min j' (a.length : Int) = min j (a.length : Int) → 0 ≤ i' → 0 ≤ j' → Txt.slice (S a) (some i) (some j) = Txt.slice (S a) (some i') (some j') := by
    intro i' j' q1 q2 q3 q4
    have h0 : ¬ i < 0 := by omega
    have h1 : ¬ j < 0 := by omega
    have h3 : ¬ i' < 0 := by omega
    have h4 : ¬ j' < 0 := by omega
    have h5 : (1 : Int) > 0 := by decide
    unfold Txt.slice
    simp only [Builtin.Str.strSliceIndices, hl, h0, h1, h3, h4, h5, if_false, if_true, q1, q2]
  by_cases hij : min i (a.length : Int) ≤ min j (a.length : Int)
  · rw [e1 (min i (a.length : Int)) (min j (a.length : Int)) (by omega) (by omega) (by omega) (by omega)]
    have e := beq_iff_eq.mp (slice_closesL (x := S a) (i := min i (a.length : Int)) (j := min j (a.length : Int)) (by omega) hij (by rw [hl]; omega))
    refine e.trans ?_
    show S ((a.drop (min i (a.length : Int)).toNat).take (min j (a.length : Int) - min i (a.length : Int)).toNat) = _
    congr 1
    rw [List.drop_take]
    by_cases hi : i ≤ (a.length : Int)
    · rw [Int.min_eq_left hi]
      by_cases hj : j ≤ (a.length : Int)
      · rw [Int.min_eq_left hj, show (j - i).toNat = j.toNat - i.toNat by omega]
      · rw [Int.min_eq_right (by omega), List.take_of_length_le (by rw [List.length_drop]; omega), List.take_of_length_le (by rw [List.length_drop]; omega)]
    · rw [Int.min_eq_right (by omega), List.drop_of_length_le (by omega), List.drop_of_length_le (by omega), List.take_nil, List.take_nil]
  · have h0 : ¬ i < 0 := by omega
    have h1 : ¬ j < 0 := by omega
    have h5 : (1 : Int) > 0 := by decide
    have e : Builtin.Str.strSliceIndices (some i) (some j) 1 (S a).length = [] := by
      simp only [Builtin.Str.strSliceIndices, hl, h0, h1, h5, if_false, if_true, PySem.sliceRange, Int.ediv_one]
      rw [List.map_eq_nil_iff, List.range_eq_nil]
      split
      · omega
      · rfl
    have hne : ((([] : List Nat).length == (S a).length) : Bool) = false := by
      rw [hl]
      refine decide_eq_false ?_
      simp only [List.length_nil]
      omega
    unfold Txt.slice
    rw [e, hne, Bool.and_false, if_neg Bool.false_ne_true]
    show S [] = _
    rw [List.drop_of_length_le (by rw [List.length_take]; omega)]
end DL

set_option Elab.async false
set_option linter.all false
set_option maxRecDepth 100000
set_option maxHeartbeats 2000000
namespace DL
open PySem PySem.Spec PyProof.Rows L2
section
variable {X : Cx} {τ : Tau} {O : Own} {D : DEn} {t iter : Expr} {body : List Stmt} {pos : Pos}
/-- a loop over a list that is owned, and that a turn leaves as it is -/
theorem ds_forO (h : DE X τ O iter fun w O1 => ∃ (p : Addr) (ds : List PyData), w = .r (.ref p) ∧ ∃ Iv : Nat → Tau → Own → Prop, Iv 0 τ O1 ∧ (∀ i τ' O', Iv i τ' O' → ∃ j : Nat, O'[j]? = some (p, Cell.l ds)) ∧
      (∀ (i : Nat) (d : PyData) (τ' : Tau) (O' : Own), ds[i]? = some d → Iv i τ' O' → DTg X τ' O' t (.d d) fun τ2 O2 => DSs X τ2 O2 body { nx := Iv (i + 1), ct := Iv (i + 1), bk := D.nx, rt := D.rt }) ∧ (∀ τ' O', Iv ds.length τ' O' → D.nx τ' O'))
    (hp : PassesOwn (model X.prog X.w) X.A X.env X.xe := by exact PassesOwn.never) (hc : X.calm = true := by rfl) (hs : ∀ x, foldedSetIterable iter X.env x = pure x := by intro _; rfl) : DS X τ O (.For t iter body [] pos) D := by
  refine ⟨?_⟩
  intro σ Hr H E hE hS hD pins s I
  refine (ps_for hp hc (pi_list pe_te) pg_tg pss_tss hs).run pins s σ H E I ?_
  refine h σ Hr H _ hE hS fun v H1 ⟨w, O1, Hr1, ⟨p, ds, hw, Iv, h0, hcell, hstep, hend⟩, e1, s1, k1⟩ => ?_
  subst hw
  have k1' : v = .ref p := k1
  subst k1'
  obtain ⟨j, hj⟩ := hcell 0 τ O1 h0
  obtain ⟨us, u1, u2⟩ := s1.cell hj
  refine ⟨p, rfl, ⟨us, SqL.of u1⟩, ?_⟩
  refine for_it (J := Itl X.K p) (n := ds.length) (G := fun H => ∃ xs, SqL X.K H p xs ∧ xs.length = ds.length) (Y := fun i H v H' => H' = H ∧ ∀ xs, SqL X.K H p xs → xs[i]? = some v)
    ⟨fun i H hi ⟨xs, q, hl⟩ => ⟨xs, xs[i], q, by simp [hl, hi]⟩, fun H ⟨xs, q, hl⟩ => ⟨xs, q, by omega⟩, fun _ _ _ _ _ q y => ⟨y.1, y.2⟩⟩
    (fun i σ' H' => NO X.K Hr1 (Iv i) σ' H') ⟨τ, O1, Hr1, h0, Same.refl _, s1, hE.mono e1⟩ ?_ ?_ ?_
  · intro i σ' H' _ ⟨τ', O', Hr', p', e, s', _⟩
    obtain ⟨j, hj⟩ := hcell i τ' O' p'
    obtain ⟨us, u1, u2⟩ := s'.cell hj
    exact ⟨us, SqL.of u1, u2.len⟩
  · intro i x σ' H' H2 hi ⟨τ', O', Hr', p', e, s', k⟩ ⟨y1, y2⟩
    subst y1
    obtain ⟨j, hj⟩ := hcell i τ' O' p'
    obtain ⟨us, u1, u2⟩ := s'.cell hj
    obtain ⟨d, hd, kd⟩ := u2.getV (y2 us (SqL.of u1))
    refine hstep i d τ' O' hd p' x σ' Hr' _ _ k s' kd fun σ3 H3 ⟨τ3, O3, Hr3, p3, e3, s3, k3⟩ => ?_
    refine p3 σ3 Hr3 H3 _ k3 s3 ⟨fun σ4 H4 q => no_to (e.trans e3) q, fun v H4 q => hD.rt v H4 (po_to ((e1.trans e).trans e3) q), fun σ4 H4 q => hD.nx σ4 H4 (no_to ((e1.trans e).trans e3) q), fun σ4 H4 q => no_to (e.trans e3) q⟩
  · intro σ' H' ⟨τ', O', Hr', p', e, s', k⟩
    exact hD.nx _ _ ⟨τ', O', Hr', hend τ' O' p', e1.trans e, s', k⟩
end
end DL

set_option Elab.async false
set_option linter.all false
set_option maxRecDepth 100000
set_option maxHeartbeats 2000000
/-! things in things, owned: cells that hold references -/
namespace DL
open PySem PySem.Spec PyProof.Rows L2
/-! ### what is owned, in another order, and less of it -/
def Les (O' O : Own) : Prop := ∃ R, (O' ++ R).Perm O
theorem Les.refl (O : Own) : Les O O := ⟨[], by rw [List.append_nil]⟩
theorem Les.of {O O' : Own} (h : O'.Perm O) : Les O' O := ⟨[], by rw [List.append_nil]; exact h⟩
theorem Les.trans {O O' O'' : Own} (h : Les O'' O') (g : Les O' O) : Les O'' O := by
  obtain ⟨R, p⟩ := h
  obtain ⟨R2, q⟩ := g
  refine ⟨R ++ R2, ?_⟩
  rw [← List.append_assoc]
  exact (p.append_right R2).trans q
theorem Les.cons {O O' : Own} (x : Addr × Cell) (h : Les O' O) : Les (x :: O') (x :: O) := by
  obtain ⟨R, p⟩ := h
  exact ⟨R, p.cons x⟩
theorem Les.drop {O : Own} (x : Addr × Cell) : Les O (x :: O) := ⟨[x], List.perm_append_comm⟩
theorem Sep.sub {K : PySem.W.Frag} {Hr H : Hp} {O O' : Own} (h : Les O' O) (S : Sep K Hr O H) : Sep K Hr O' H := by
  obtain ⟨R, p⟩ := h
  refine ⟨S.ex, fun x hx => S.own x (p.mem_iff.mp (List.mem_append_left R hx)), ?_⟩
  have q := (p.map (·.1)).nodup_iff.mpr S.nd
  rw [List.map_append] at q
  exact (List.nodup_append.mp q).1
section
variable {X : Cx} {τ : Tau} {O : Own} {P : W → Own → Prop} {D : DEn} {a b c e : Expr} {rest : List Stmt} {st : Stmt} {pos : Pos} {w w1 w2 : W}
theorem dss_sub {O' : Own} (q : Les O' O) (h : DSs X τ O' rest D) : DSs X τ O rest D := ⟨fun σ Hr H E hE hS hD => h σ Hr H E hE (hS.sub q) hD⟩
/-- what comes, with less owned -/
def sb (P : W → Own → Prop) : W → Own → Prop := fun w O => ∃ O', Les O' O ∧ P w O'
theorem po_sb {K : PySem.W.Frag} {Hr : Hp} {v : V} {H : Hp} (h : PO K Hr (sb P) v H) : PO K Hr P v H := by
  obtain ⟨w, O', Hr', ⟨O2, q, h⟩, e, s, k⟩ := h
  exact ⟨w, O2, Hr', h, e, s.sub q, k⟩
theorem de_sb (h : DE X τ O e (sb P)) : DE X τ O e P := ⟨fun σ Hr H Q hE hS hQ => h σ Hr H Q hE hS fun v H' q => hQ v H' (po_sb q)⟩
def sbT (R : Tau → Own → Prop) : Tau → Own → Prop := fun τ O => ∃ O', Les O' O ∧ R τ O'
theorem ds_sb (h : DS X τ O st { D with nx := sbT D.nx }) : DS X τ O st D := ⟨fun σ Hr H E hE hS hD => h σ Hr H E hE hS
  ⟨fun σ' H' ⟨τ', O', Hr', ⟨O2, q, p⟩, e, s, k⟩ => hD.nx σ' H' ⟨τ', O2, Hr', p, e, s.sub q, k⟩, hD.rt, hD.bk, hD.ct⟩⟩
/-! ### lists of references -/
/-- an item of a list that holds references -/
theorem ix_r {p : Addr} (j : Nat) {us : List V} {i : Int} {u : V} (hj : O[j]? = some (p, .o (.lst us))) (g : atI us i = some u) (h : P (.r u) O) : IxD X (.r (.ref p)) (.d (.int i)) O P :=
  ixd_of ix_list fun v1 v2 Hr H Q hS h1 h2 hQ => by
    cases h1
    cases h2
    have e1 : H p = some (.lst us) := hS.cell hj
    exact ⟨_, _, _, u, rfl, rfl, SqL.of e1, g, hQ _ _ (po_here h hS rfl)⟩
theorem c_lenO {p : Addr} (j : Nat) {us : List V} (hj : O[j]? = some (p, .o (.lst us))) (h : P (.d (.int us.length)) O) : CallD X (.builtin "len") [.r (.ref p)] O P :=
  calld_of call_len_seq fun vs Hr H Q hS h1 hQ => by
    cases h1 with
    | cons k1 k2 =>
      cases k2
      cases k1
      have e1 : H p = some (.lst us) := hS.cell hj
      exact ⟨_, _, rfl, .inl (SqL.of e1), hQ _ _ (po_here h hS (.int _))⟩
/-- o[i] = e, a list of references -/
theorem ds_subR {o i : Expr} {pos' : Pos} (h : DE X τ O e fun w O1 => DE X τ O1 o fun wo O2 => DE X τ O2 i fun wi O3 =>
      ∃ (p : Addr) (j : Nat) (us : List V) (k : Int) (n : Nat) (u : V), w = .r u ∧ wo = .r (.ref p) ∧ wi = .d (.int k) ∧ O3[j]? = some (p, .o (.lst us)) ∧ ixN us.length k = some n ∧ D.nx τ (O3.set j (p, .o (.lst (us.set n u)))))
    (hs : swapsWithSole [.Subscript o i pos'] e pos.line X.env = pure false := by rfl) (hw : swappedStores [.Subscript o i pos'] e X.env = pure none := by rfl)
    (h1 : (assignEach [.Subscript o i pos'] X.env).map (·.2) = [assign (.Subscript o i pos') X.env] := by rfl)
    (ha : ∀ v, assign (.Subscript o i pos') X.env v = (do
      let ov ← holding [v] (eval o X.env)
      let iv ← holding [v, ov] (eval i X.env)
      standAt pos'
      holding [v, ov, iv] (setItem ov iv v)
      release [v, ov, iv] []) := by intro _; rfl) : DS X τ O (.Assign [.Subscript o i pos'] e pos) D := by
  refine ⟨?_⟩
  intro σ Hr H E hE hS hD pins s I
  refine (ps_asg pe_te (pg_sub pe_te pe_te set_list ha) hs hw h1).run pins s σ H E I ?_
  refine h σ Hr H _ hE hS fun v1 H1 ⟨w1, O1, Hr1, h1, e1, s1, k1⟩ => ?_
  refine h1 σ Hr1 H1 _ (hE.mono e1) s1 fun v2 H2 ⟨w2, O2, Hr2, h2, e2, s2, k2⟩ => ?_
  refine h2 σ Hr2 H2 _ (hE.mono (e1.trans e2)) s2 fun v3 H3 ⟨w3, O3, Hr3, ⟨p, j, us, k, n, u, q1, q2, q3, hj, hn, hx⟩, e3, s3, k3⟩ => ?_
  subst q1 q2 q3
  cases k1
  cases k2
  cases k3
  have u1 : H3 p = some (.lst us) := s3.cell hj
  exact ⟨p, us, k, n, rfl, rfl, u1, hn, hD.nx _ _ ⟨_, _, Hr3, hx, (e1.trans e2).trans e3, s3.put hj (c' := .o (.lst (us.set n v1))) upd_same, hE.mono ((e1.trans e2).trans e3)⟩⟩
/-- d[k], a dict of references -/
theorem de_rget (hu : X.A.units + 1 < cLine) (h : DE X τ O a fun w1 O1 => DE X τ O1 b fun w2 O2 => ∃ (p : Addr) (j : Nat) (kvs : List (Key × V)) (k : Key) (u : V), w1 = .r (.ref p) ∧ O2[j]? = some (p, .o (.dK kvs)) ∧ w2 = .d (keyD k) ∧ valV kvs k = some u ∧ P (.r u) O2) (hs : NoSl b := by exact fun _ _ => rfl) : DE X τ O (.Subscript a b pos) P := by
  refine ⟨?_⟩
  intro σ Hr H Q hE hS hQ pins s I
  refine (pe_dget hu pe_te pe_te hs).run pins s σ H Q I ?_
  refine h σ Hr H _ hE hS fun x H1 ⟨w1, O1, Hr1, h1, e1, s1, k1⟩ => ?_
  refine h1 σ Hr1 H1 _ (hE.mono e1) s1 fun y H2 ⟨w2, O2, Hr2, ⟨p, j, kvs, k, u, hp, hj, hw, hv, hP⟩, e2, s2, k2⟩ => ?_
  subst hp hw
  cases k1
  obtain rfl := keyD_v k2
  have u1 : H2 p = some (.dK kvs) := s2.cell hj
  exact ⟨p, u, rfl, by rw [← hv]; exact DGet.k u1, hQ _ _ ⟨.r u, O2, Hr2, hP, e1.trans e2, s2, rfl⟩⟩
/-! ### dict displays -/
def DPs (X : Cx) (τ : Tau) : Own → List (Option Expr) → List Expr → (List (W × W) → Own → Prop) → Prop
  | O, some k :: ks, v :: vs, P => DE X τ O k fun wk O1 => DE X τ O1 v fun wv O2 => DPs X τ O2 ks vs fun ps O3 => P ((wk, wv) :: ps) O3
  | O, _, _, P => P [] O
def trs (X : Cx) : List (Option Expr) → List Expr → List (TE × TE)
  | some k :: ks, v :: vs => (te X k, te X v) :: trs X ks vs
  | _, _ => []
inductive WPs (K : PySem.W.Frag) (Hr : Hp) : List (V × V) → List (W × W) → Prop
  | nil : WPs K Hr [] []
  | cons {v u : V} {w z : W} {vs : List (V × V)} {ws : List (W × W)} : WOk K Hr v w → WOk K Hr u z → WPs K Hr vs ws → WPs K Hr ((v, u) :: vs) ((w, z) :: ws)
theorem dps_run {X : Cx} {τ : Tau} : ∀ (ks : List (Option Expr)) (vs : List Expr) {O : Own} {P : List (W × W) → Own → Prop} {σ : L2.St} {Hr H : Hp} {Q : List (V × V) → Hp → Prop}, DPs X τ O ks vs P → En X.K Hr σ τ → Sep X.K Hr O H →
    (∀ ps H' ws O' Hr', P ws O' → Same Hr Hr' → Sep X.K Hr' O' H' → WPs X.K Hr' ps ws → Q ps H') → tPairs (trs X ks vs) σ H Q
  | some k :: ks, v :: vs, O, P, σ, Hr, H, Q, h, hE, hS, hQ => by
    rw [DPs] at h
    refine h σ Hr H _ hE hS fun x H1 ⟨w1, O1, Hr1, h1, e1, s1, k1⟩ => ?_
    refine h1 σ Hr1 H1 _ (hE.mono e1) s1 fun y H2 ⟨w2, O2, Hr2, h2, e2, s2, k2⟩ => ?_
    refine dps_run ks vs h2 (hE.mono (e1.trans e2)) s2 fun ps H' ws O' Hr' p e s q => hQ _ _ _ _ Hr' p ((e1.trans e2).trans e) s (.cons (k1.mono (e2.trans e)) (k2.mono e) q)
  | [], vs, O, P, σ, Hr, H, Q, h, hE, hS, hQ => by
    have h' : P [] O := by cases vs <;> exact h
    exact hQ [] H [] O Hr h' (Same.refl _) hS .nil
  | none :: ks, vs, O, P, σ, Hr, H, Q, h, hE, hS, hQ => by
    have h' : P [] O := by cases vs <;> exact h
    have e : trs X (none :: ks) vs = [] := by cases vs <;> rfl
    rw [e]
    exact hQ [] H [] O Hr h' (Same.refl _) hS .nil
  | some k :: ks, [], O, P, σ, Hr, H, Q, h, hE, hS, hQ => by
    exact hQ [] H [] O Hr h (Same.refl _) hS .nil
theorem pps_trs {X : Cx} {pos : Pos} : ∀ (ks : List (Option Expr)) (vs : List Expr), ks.all (·.isSome) = true → ks.length = vs.length → PPs X pos ks vs (trs X ks vs)
  | [], [], _, _ => pps_nil
  | some k :: ks, v :: vs, h, hl => pps_cons pe_te pe_te (pps_trs ks vs (by simpa using h) (by simpa using hl))
  | none :: _, _, h, _ => by simp at h
  | [], _ :: _, _, h => by simp at h
  | some _ :: _, [], _, h => by simp at h
theorem wps_refs {K : PySem.W.Frag} {Hr : Hp} : ∀ {us : List (Key × V)} {ps : List (V × V)}, WPs K Hr ps (us.map fun p => (W.d (keyD p.1), W.r p.2)) → ps = us.map fun kv => (kV kv.1, kv.2)
  | [], _, h => by cases h; rfl
  | u :: us, _, h => by
    cases h with
    | cons a b c =>
      rw [wps_refs (us := us) c, keyD_v a]
      cases b
      rfl
/-- {k: v, ..}, the values references: a new dict, owned -/
theorem de_dispR {keys : List (Option Expr)} {values : List Expr}
    (h : ∀ p, DPs X τ ((p, .o (.dK [])) :: O) keys values fun ws O2 => ∃ (us : List (Key × V)) (j : Nat), ws = (us.map fun q => (W.d (keyD q.1), W.r q.2)) ∧ us.length ≤ 15 ∧ O2[j]? = some (p, .o (.dK [])) ∧ P (.r (.ref p)) (O2.set j (p, .o (.dK (mergeK [] us)))))
    (hall : keys.all (·.isSome) = true := by rfl) (hl : keys.length = values.length := by rfl) (h0 : keys ≠ [] := by exact nofun) (h15 : keys.length ≤ 15 := by decide) : DE X τ O (.Dict keys values pos) P := by
  refine ⟨?_⟩
  intro σ Hr H Q hE hS hQ pins s I
  refine (pe_disp (pps_trs keys values hall hl) hall hl h0 h15).run pins s σ H Q I ?_
  intro p hp
  refine dps_run keys values (h p) hE (hS.newOwn (c := .o (.dK [])) hp upd_same) fun ps H' ws O' Hr' ⟨us, j, hw, hz, hj, hP⟩ e s' q => ?_
  subst hw
  have u1 : H' p = some (.dK []) := s'.cell hj
  exact ⟨u1, us, wps_refs q, hz, hQ _ _ ⟨_, _, Hr', hP, e, s'.put hj (c' := .o (.dK (mergeK [] us))) upd_same, rfl⟩⟩
end
end DL

set_option Elab.async false
set_option linter.all false
set_option maxRecDepth 100000
set_option maxHeartbeats 2000000
namespace DL
open PySem PySem.Spec PyProof.Rows L2

/-! ### exceptions: what is owned keeps in mind what stood when the try began -/
def stampC (Hr0 : Hp) (c : Cell) : XC where
  ok K Hr H p := CellOk K Hr H p c ∧ Same Hr0 Hr
  mono e h := ⟨h.1.mono e, h.2.trans e⟩
  some_ h := h.1.some
  heap h e := ⟨h.1.heap e, h.2⟩
section
variable {K : PySem.W.Frag} {Hr Hr0 H : Hp} {O O' : Own} {p : Addr} {c c' : Cell} {j : Nat}
theorem sep_swap (S : Sep K Hr O H) (hj : O[j]? = some (p, c)) (hc : CellOk K Hr H p c') : Sep K Hr (O.set j (p, c')) H := by
  obtain ⟨o, ho⟩ := (S.cell hj).some
  have e : upd H p o = H := by
    funext a
    by_cases q : a = p
    · subst q
      rw [upd_same, ho]
    · rw [upd_ne q]
  have := S.put (o := o) (c' := c') hj (by rw [e]; exact hc)
  rw [e] at this
  exact this
theorem sep_stamp (S : Sep K Hr O H) (hj : O[j]? = some (p, c)) : Sep K Hr (O.set j (p, .x (stampC Hr c))) H :=
  sep_swap S hj ⟨S.cell hj, Same.refl _⟩
theorem sep_unstamp (S : Sep K Hr O H) (hj : O[j]? = some (p, .x (stampC Hr0 c))) : Same Hr0 Hr ∧ Sep K Hr (O.set j (p, c)) H :=
  ⟨(S.cell hj).2, sep_swap S hj (S.cell hj).1⟩
/-- the stamp is taken off -/
def Unst (p : Addr) (r : XC) (c : Cell) (O O' : Own) : Prop := ∃ i, O[i]? = some (p, .x r) ∧ O' = O.set i (p, c)
theorem unst_back (hj : O[j]? = some (p, c)) (r : XC) : Unst p r c (O.set j (p, .x r)) O := by
  have hl := (List.getElem?_eq_some_iff.mp hj).1
  refine ⟨j, by rw [List.getElem?_set, if_pos rfl, if_pos hl], ?_⟩
  rw [List.set_set]
  apply List.ext_getElem?
  intro i
  rw [List.getElem?_set]
  split
  · rename_i q
    subst q
    first | exact hj | (rw [if_pos hl]; exact hj)
  · rfl
theorem unst_sep (S : Sep K Hr O H) (u : Unst p (stampC Hr0 c) c O O') : Same Hr0 Hr ∧ Sep K Hr O' H := by
  obtain ⟨i, hi, rfl⟩ := u
  exact sep_unstamp S hi
theorem En.unset {σ : L2.St} {τ : Tau} (h : En K Hr σ τ) (i : Nat) : En K Hr (σ.set i none) (τ.set i none) := by
  refine ⟨by rw [List.length_set, List.length_set]; exact h.len, fun k w q => ?_⟩
  rw [List.getElem?_set] at q
  rw [List.getElem?_set]
  by_cases e : i = k
  · subst e
    rw [if_pos rfl] at q
    split at q <;> cases q
  · rw [if_neg e] at q
    rw [if_neg e]
    exact h.at_ k w q
end
/-- what leaves the def by an exception, at the level of data -/
def RaF (X : Cx) (PX : Value → Own → Prop) : Prop := ∃ W : WX, Takes X W ∧ ∀ (cls : Value) (σ : L2.St) (Hr H : Hp) (O : Own), Sep X.K Hr O H → PX cls O → W cls none σ H
/-- what reaches the clauses of a try -/
def RaT (X : Cx) (PT : Tau → Value → Own → Prop) : Prop := ∃ W : WX, Takes X W ∧ ∀ (cls : Value) (σ : L2.St) (τ : Tau) (Hr H : Hp) (O : Own), En X.K Hr σ τ → Sep X.K Hr O H → PT τ cls O → W cls none σ H
theorem RaF.t {X : Cx} {PX : Value → Own → Prop} (h : RaF X PX) : RaT X fun _ cls O => PX cls O := by
  obtain ⟨W, t, q⟩ := h
  exact ⟨W, t, fun cls σ τ Hr H O _ S p => q cls σ Hr H O S p⟩
theorem RaF.les {X : Cx} {PX : Value → Own → Prop} (h : RaF X PX) : RaF X fun cls O' => ∃ O2, Les O2 O' ∧ PX cls O2 := by
  obtain ⟨W, t, q⟩ := h
  exact ⟨W, t, fun cls σ Hr H O S ⟨O2, l, p⟩ => q cls σ Hr H O2 (S.sub l) p⟩
/-- an exception class of the program's own, by name -/
structure ExcN (K : PySem.W.Frag) (mg : Str → Option Value) (x : Str) (C : Addr) : Prop where
  ex : ∃ bmB B newId initId, ExcBaseFacts B newId initId bmB ∧ PySem.W.excIn K C bmB newId = true
  mg_ : mg x = some (.ref C)
  kp : PySem.W.keepIn K (.ref C) = true
  sb : PySem.W.subIn K (.ref C) (.type "BaseException") = some true
  ty : PySem.W.typeIn K (.ref C) = some (.type "type")
abbrev PreX := List W → Own → (W → Own → Prop) → (Value → Own → Prop) → Prop
def spX (K : PySem.W.Frag) (n : Nat) (pre : PreX) : Sp := fun vs H Q E => ∃ (ws : List W) (O : Own) (Hr : Hp) (P : W → Own → Prop) (PX : Value → Own → Prop), Sep K Hr O H ∧ WOks K Hr vs ws ∧ ws.length = n ∧ pre ws O P PX ∧ (∀ v H', PO K Hr P v H' → Q v H') ∧ ∀ cls Hr' O' H', PX cls O' → Sep K Hr' O' H' → E cls none H'
section
variable {P : Program} {w : World} {K : PySem.W.Frag} {mg : Str → Option Value} {base : Heap}
/-- a def that may raise keeps its promise, by its body -/
theorem fn_dlX {x qual : Str} {st : Stmt} {f : Addr} {fd : FuncData} {N ps : List Str} {k : Nat} {pre : PreX} (F : Fun K x qual st f fd) (S : FnScope N ps (defScope st))
    (hbody : ∀ (cdv : Value) (A : Around) (outer : List Env) (s : Shared) (H : Hp) (E : XK) (xe : Value → Shared → Prop), Room k (A.deeper (envOfC qual (defScope st) s.heap.objs.size f cdv)) → ∀ (ws : List W) (O : Own) (Q : W → Own → Prop) (PX : Value → Own → Prop), ws.length = ps.length → pre ws O Q PX → RaF ((cxOf CX0 P w K mg base N qual (defScope st) f cdv A outer s H E).wish xe) PX →
      PassesOwn (model P w) (A.deeper (envOfC qual (defScope st) s.heap.objs.size f cdv)) (envOfC qual (defScope st) s.heap.objs.size f cdv) xe →
      DSs ((cxOf CX0 P w K mg base N qual (defScope st) f cdv A outer s H E).wish xe) (ws.map some ++ List.replicate (N.length - ws.length) none) O (defBody st) { nx := fun _ O' => Q (.d .none) O', rt := Q }) :
    FnOk P w K mg base (CX P w) (k + 1) f fd ps (spX K ps.length pre) := by
  refine F.okX S (fun vs H Q E ⟨ws, O, Hr, P, PX, _, hw, hl, _⟩ => hw.len.trans hl) (fun cdv A outer s H vs Q E hr ⟨ws, O, Hr, PP, PX, hS, hw, hl, hp, hq, hx⟩ => ⟨tss _ _, pss_tss, ?_⟩)
  refine hbody cdv A outer s H E (cxOf (CX P w) P w K mg base N qual (defScope st) f cdv A outer s H E).xe hr ws O PP PX hl hp ⟨fun cls d σ H => E cls d H, takes_of (X := cxOf (CX P w) P w K mg base N qual (defScope st) f cdv A outer s H E) rfl rfl rfl rfl, fun cls σ Hr' H' O' s' p => hx cls Hr' O' H' p s'⟩ PassesOwn.leaving (L2.start N vs) Hr H _ (en_start hw) hS
    ⟨fun σ H' ⟨τ', O', Hr', p, e, s', k⟩ => hq _ _ ⟨_, O', Hr', p, e, s', .non⟩, hq, fun _ _ ⟨_, _, _, p, _⟩ => p.elim, fun _ _ ⟨_, _, _, p, _⟩ => p.elim⟩
structure DefX (P : Program) (w : World) (K : PySem.W.Frag) (mg : Str → Option Value) (base : Heap) (k : Nat) (x : Str) (n : Nat) (pre : PreX) : Prop where
  ex : ∃ (f : Addr) (fd : FuncData) (ps : List Str), FnOk P w K mg base (CX P w) k f fd ps (spX K n pre) ∧ mg x = some (.ref f) ∧ PySem.W.keepIn K (.ref f) = true ∧ Binds K fd ps []
theorem Binds.defX {k n : Nat} {x : Str} {f : Addr} {fd : FuncData} {ps : List Str} {pre : PreX} (F : FnOk P w K mg base (CX P w) k f fd ps (spX K n pre)) (h1 : mg x = some (.ref f)) (h2 : PySem.W.keepIn K (.ref f) = true) (h3 : Binds K fd ps []) : DefX P w K mg base k x n pre := ⟨f, fd, ps, F, h1, h2, h3⟩
end
section
variable {X : Cx} {τ : Tau} {O : Own} {P : W → Own → Prop} {PX : Value → Own → Prop} {PT : Tau → Value → Own → Prop} {pos pos' p p2 np : Pos} {x m n : Str} {e : Expr} {es : List Expr} {k nn j : Nat} {pre : PreX} {D : DEn}
theorem de_callX (F : DefX X.prog X.w X.K X.mg X.base k x nn pre) (hr : Room k X.A) (T : RaF X PX) (h : DA X τ O (e :: es) fun ws O1 => ws.length = nn ∧ pre ws O1 P PX) (hg : Gl X x := by rfl) (hdb : (x == ("__debug__" : Str)) = false := by decide)
    (he : starEach (e :: es) X.env = (false, eval e X.env) :: starEach es X.env := by rfl) (hpl : (backTo pos (starEach es X.env)).any (·.1) = false := by rfl) : DE X τ O (.Call (.Name x p) (e :: es) [] pos) P := by
  refine ⟨?_⟩
  intro σ Hr H Q hE hS hQ pins s I
  obtain ⟨f, fd, ps, F, hm, hk, hb⟩ := F.ex
  obtain ⟨W, tk, hw⟩ := T
  refine (pe_callS F hr hg hm hk hb (fun σ => passAt tk σ) pa_ta hdb he hpl).run pins s σ H Q I ?_
  refine h σ Hr H _ hE hS fun vs H1 ⟨ws, O1, Hr1, ⟨hl, hp⟩, e1, s1, k1⟩ => ?_
  exact ⟨ws, O1, Hr1, P, PX, s1, k1, hl, hp, fun v H' q => hQ v H' (po_to e1 q), fun cls Hr' O' H' p s' => hw cls σ Hr' H' O' s' p⟩
/-- such a call within a try -/
theorem de_callT (F : DefX X.prog X.w X.K X.mg X.base k x nn pre) (hr : Room k X.A) (T : RaT X PT) (h : DA X τ O (e :: es) fun ws O1 => ws.length = nn ∧ ∃ (j : Nat) (p : Addr) (c : Cell), O1[j]? = some (p, c) ∧ ∀ r : XC, pre ws (O1.set j (p, .x r)) (fun w O2 => ∃ O3, Unst p r c O2 O3 ∧ P w O3) (fun cls O2 => ∃ O3, Unst p r c O2 O3 ∧ PT τ cls O3)) (hg : Gl X x := by rfl) (hdb : (x == ("__debug__" : Str)) = false := by decide)
    (he : starEach (e :: es) X.env = (false, eval e X.env) :: starEach es X.env := by rfl) (hpl : (backTo pos (starEach es X.env)).any (·.1) = false := by rfl) : DE X τ O (.Call (.Name x p) (e :: es) [] pos) P := by
  refine ⟨?_⟩
  intro σ Hr H Q hE hS hQ pins s I
  obtain ⟨f, fd, ps, F, hm, hk, hb⟩ := F.ex
  obtain ⟨W, tk, hw⟩ := T
  refine (pe_callS F hr hg hm hk hb (fun σ => passAt tk σ) pa_ta hdb he hpl).run pins s σ H Q I ?_
  refine h σ Hr H _ hE hS fun vs H1 ⟨ws, O1, Hr1, ⟨hl, j, p, c, hj, hp⟩, e1, s1, k1⟩ => ?_
  refine ⟨ws, _, Hr1, _, _, sep_stamp s1 hj, k1, hl, hp _, ?_, ?_⟩
  · rintro v H' ⟨w, O2, Hr2, ⟨O3, hu, hP⟩, e2, s2, k2⟩
    exact hQ v H' (po_to e1 ⟨w, O3, Hr2, hP, e2, (unst_sep s2 hu).2, k2⟩)
  · rintro cls Hr' O' H' ⟨O3, hu, hP⟩ s'
    obtain ⟨e2, s2⟩ := unst_sep s' hu
    exact hw cls σ τ Hr' H' O3 ((hE.mono e1).mono e2) s2 hP
theorem ds_raise {C : Addr} {jj : Nat} {cpos : Pos} (T : RaT X PT) (E : ExcN X.K X.mg x C) (h : PT τ (.ref C) O) (hc : X.calm = true := by rfl) (hg : Gl X x := by rfl) (hd : (x == ("__debug__" : Str)) = false := by decide) :
    DS X τ O (.Raise (some (.Call (.Name x p) [.Constant (.str m) jj p2] [] cpos)) none pos) D := by
  refine ⟨fun σ Hr H EE hE hS hD pins s I => ?_⟩
  obtain ⟨W, tk, hw⟩ := T
  obtain ⟨bmB, B, newId, initId, hF, hx⟩ := E.ex
  exact (ps_raise hc tk (pmk_own hF hx E.mg_ E.kp (raises_own E.sb E.ty) hg hd)).run pins s σ H EE I (hw _ σ τ Hr H O hE hS h)
theorem ds_raiseL {C : Addr} {jj : Nat} {cpos : Pos} {O2 : Own} (T : RaT X PT) (E : ExcN X.K X.mg x C) (q : Les O2 O) (h : PT τ (.ref C) O2) (hc : X.calm = true := by rfl) (hg : Gl X x := by rfl) (hd : (x == ("__debug__" : Str)) = false := by decide) :
    DS X τ O (.Raise (some (.Call (.Name x p) [.Constant (.str m) jj p2] [] cpos)) none pos) D :=
  ⟨fun σ Hr H EE hE hS hD => (ds_raise T E h hc hg hd) σ Hr H EE hE (hS.sub q) hD⟩
/-- try: .. except X as n: suite -/
theorem ds_try {i : Nat} {body suite : List Stmt} {b₀ : Stmt} {cl : Value} {q : Addr} {c : Cell} (PT : XC → Tau → Value → Own → Prop) (hj : O[j]? = some (q, c)) (hN : X.N.Nodup) (hi : X.N[i]? = some n) (hcl : Names X x cl)
    (hbody : ∀ (r : XC) (pn : List (Addr × Obj)) (xe : Value → Shared → Prop), RaT (X.tr pn xe) (PT r) → PassesOwn (model X.prog X.w) X.A X.env xe →
      DSs (X.tr pn xe) τ (O.set j (q, .x r)) body { nx := fun τ' O' => ∃ O3, Unst q r c O' O3 ∧ D.nx τ' O3, rt := fun w O' => ∃ O3, Unst q r c O' O3 ∧ D.rt w O3, bk := fun τ' O' => ∃ O3, Unst q r c O' O3 ∧ D.bk τ' O3, ct := fun τ' O' => ∃ O3, Unst q r c O' O3 ∧ D.ct τ' O3 })
    (hsuite : ∀ (r : XC) (τ' : Tau) (cls : Value) (O' : Own), PT r τ' cls O' → PySem.W.exmOne X.K cls cl = some true ∧ ∃ O3, Unst q r c O' O3 ∧ ∀ (a : Addr) (oe : Obj) (pn : List (Addr × Obj)), Zc cls none oe → (∃ vs, oe.data = Data.fields vs) →
      DSs (X.suite a ((a, oe) :: pn)) (τ'.set i (some (.r (.ref a)))) O3 (b₀ :: suite) { nx := fun τ2 O2 => D.nx (τ2.set i none) O2, rt := D.rt, bk := fun τ2 O2 => D.bk (τ2.set i none) O2, ct := fun τ2 O2 => D.ct (τ2.set i none) O2 })
    (hs : X.stack = X.env :: X.outer := by rfl) (hf : X.env.frame = some X.env.locals := by rfl) (hk : X.env.kindOf n = some NameKind.local := by rfl) :
    DS X τ O (.Try body [.ExceptHandler (some (.Name x np)) (some n) (b₀ :: suite) pos'] [] [] pos) D := by
  refine ⟨fun σ Hr H E hE hS hD pins s I => ?_⟩
  refine (ps_try_as (i := i) (c := cl) (tb := fun W D σ H => ∀ (pn : List (Addr × Obj)) (xe : Value → Shared → Prop), Takes (X.tr pn xe) W → PassesOwn (model X.prog X.w) X.A X.env xe → tss (X.tr pn xe) body D σ H)
    (ts := fun a cls d D σ H => ∀ (oe : Obj) (pn : List (Addr × Obj)), Zc cls d oe → (∃ vs, oe.data = Data.fields vs) → tss (X.suite a ((a, oe) :: pn)) (b₀ :: suite) D σ H) hs hf hN hi hk hcl takes0
    (fun W pn xe tk ps => ⟨fun pins s σ H D I h => h pn xe tk ps pins s I⟩) (fun a oe cls d pn hz hv => ⟨fun pins s σ H D I h => h oe pn hz hv pins s I⟩)).run pins s σ H E I ?_
  intro pn xe tk ps
  refine hbody (stampC Hr c) pn xe ⟨_, tk, fun cls σ' τ' Hr' H' O' hE' hS' hp => ?_⟩ ps σ Hr H E hE (sep_stamp hS hj) ⟨?_, ?_, ?_, ?_⟩
  · obtain ⟨hm, O3, hu, hd⟩ := hsuite _ _ _ _ hp
    obtain ⟨e2, s2⟩ := unst_sep hS' hu
    refine ⟨true, hm, fun _ a ha oe pn hz hv => ?_, fun z => by cases z⟩
    refine hd a oe pn hz hv _ Hr' H' _ (hE'.set i rfl) s2 ⟨?_, ?_, ?_, ?_⟩
    · rintro σ2 H2 ⟨τ2, O2, Hr2, p, e, s', k⟩
      exact hD.nx _ _ ⟨_, O2, Hr2, p, e2.trans e, s', k.unset i⟩
    · rintro v H2 ⟨w, O2, Hr2, p, e, s', k⟩
      exact hD.rt _ _ ⟨_, O2, Hr2, p, e2.trans e, s', k⟩
    · rintro σ2 H2 ⟨τ2, O2, Hr2, p, e, s', k⟩
      exact hD.bk _ _ ⟨_, O2, Hr2, p, e2.trans e, s', k.unset i⟩
    · rintro σ2 H2 ⟨τ2, O2, Hr2, p, e, s', k⟩
      exact hD.ct _ _ ⟨_, O2, Hr2, p, e2.trans e, s', k.unset i⟩
  · rintro σ2 H2 ⟨τ2, O2, Hr2, ⟨O3, hu, p⟩, e, s', k⟩
    exact hD.nx _ _ ⟨_, O3, Hr2, p, e, (unst_sep s' hu).2, k⟩
  · rintro v H2 ⟨w, O2, Hr2, ⟨O3, hu, p⟩, e, s', k⟩
    exact hD.rt _ _ ⟨_, O3, Hr2, p, e, (unst_sep s' hu).2, k⟩
  · rintro σ2 H2 ⟨τ2, O2, Hr2, ⟨O3, hu, p⟩, e, s', k⟩
    exact hD.bk _ _ ⟨_, O3, Hr2, p, e, (unst_sep s' hu).2, k⟩
  · rintro σ2 H2 ⟨τ2, O2, Hr2, ⟨O3, hu, p⟩, e, s', k⟩
    exact hD.ct _ _ ⟨_, O3, Hr2, p, e, (unst_sep s' hu).2, k⟩
/-- isinstance(e, T) of what was caught -/
theorem c_isE {a C : Addr} {oe : Obj} {pn : List (Addr × Obj)} {cv : V} {u : Value} {b : Bool} (EC : ExcC X.K C) (hz : Zc (.ref C) none oe) (hv : ∃ vs, oe.data = Data.fields vs) (hc : ∀ y, RelV cv y → y = u) (hb : PySem.W.kitOne X.K (.ref C) u = some b) (h : P (.d (.bool b)) O) :
    CallD (X.suite a ((a, oe) :: pn)) (.builtin "isinstance") [.r (.ref a), .r cv] O P :=
  calld_of (call_isE EC hz hv) fun vs Hr H Q hS h1 hQ => by
    cases h1 with
    | cons k1 k2 =>
      cases k2 with
      | cons k3 k4 =>
        cases k4
        cases k3
        cases k1
        exact ⟨cv, u, b, rfl, hc, hb, hQ _ _ (po_here h hS (.bl _))⟩
end
end DL

set_option Elab.async false
set_option linter.all false
set_option maxRecDepth 100000
set_option maxHeartbeats 2000000
namespace DL
open PySem PySem.Spec PyProof.Rows L2
theorem kit_refF {K : PySem.W.Frag} {C D : Addr} (h0 : PySem.W.subIn K (.ref C) (.ref C) = some true) (hdct : PySem.W.hasDictIn K D = true) (ht : PySem.W.typeIn K (.ref D) = some (.type "type")) (h4 : PySem.W.subIn K (.ref C) (.ref D) = some false) : PySem.W.kitOne K (.ref C) (.ref D) = some false := by
  obtain ⟨cd, hc, _⟩ := PySem.W.any_some hdct
  have ne : ((.ref C : Value) == .ref D) = false := by
    refine Bool.eq_false_iff.mpr fun q => ?_
    have e : C = D := Value.ref.inj (beq_iff_eq.mp q)
    subst e
    rw [h0] at h4
    cases h4
  have e2 : ((PySem.W.clsIn K D).isSome && PySem.W.typeIn K (.ref D) == some (.type "type")) = true := by rw [hc, ht] <;> rfl
  unfold PySem.W.kitOne
  rw [if_neg (by rw [ne]; exact Bool.false_ne_true)]
  show (if ((PySem.W.clsIn K D).isSome && PySem.W.typeIn K (.ref D) == some (.type "type")) = true then PySem.W.subIn K (.ref C) (.ref D) else none) = some false
  rw [if_pos e2]
  exact h4
theorem kit_tyT {K : PySem.W.Frag} {C : Addr} {T : String} (hk : PySem.W.kitMeta T = true) (h : PySem.W.subIn K (.ref C) (.type T) = some true) : PySem.W.kitOne K (.ref C) (.type T) = some true := by
  unfold PySem.W.kitOne
  rw [if_neg (by intro q; exact nomatch (beq_iff_eq.mp q))]
  show (if PySem.W.kitMeta T = true then PySem.W.subIn K (.ref C) (.type T) else none) = some true
  rw [if_pos hk]
  exact h
end DL

set_option Elab.async false
set_option linter.all false
set_option maxRecDepth 100000
set_option maxHeartbeats 2000000
/-! comprehensions over lists that may be owned; comprehensions that make owned things -/
namespace DL
open PySem PySem.Spec PyProof.Rows L2
section
variable {X : Cx} {τ : Tau} {O : Own} {P : W → Own → Prop} {D : DEn} {elt t iter : Expr} {ifs : List Expr} {scope : Scope} {pos : Pos} {g : TG}
/-- a comprehension whose turns change nothing owned: f tells what an item gives -/
def LcP (X : Cx) (τ : Tau) (O : Own) (elt : Expr) (ifs : List Expr) (scope : Scope) (vs : List Nat) (g : TG) (PL : Addr → List PyData → Own → Prop) (ds : List PyData) : Prop :=
  ∃ f : PyData → Option PyData, ds.length < sizeLine ∧
    (∀ (i : Nat) (d : PyData), ds[i]? = some d → ∃ τ2, TgOk X.K g vs d (wipeT τ vs) τ2 ∧ ∃ k : Bool, (k = false → f d = none) ∧ ∀ (p : Addr) (acc : List PyData) (s : Shared) (H : Hp) (C : Addr) (cl : List (Str × Addr)) (fp : List Addr),
      DTs (blk X scope s H C cl fp) τ2 ((p, .l acc) :: O) ifs (fun b O3 => b = k ∧ O3 = (p, .l acc) :: O) ∧
      (k = true → DE (blk X scope s H C cl fp) τ2 ((p, .l acc) :: O) elt fun w O4 => O4 = (p, .l acc) :: O ∧ ∃ y, w = .d y ∧ f d = some y)) ∧
    ∀ p, PL p (ds.filterMap f) O
theorem lcp_map {vs : List Nat} {PL : Addr → List PyData → Own → Prop} {ds : List PyData} (f : PyData → PyData) (hz : ds.length < sizeLine)
    (hb : ∀ (i : Nat) (d : PyData), ds[i]? = some d → ∃ τ2, TgOk X.K g vs d (wipeT τ vs) τ2 ∧ ∀ (p : Addr) (acc : List PyData) (s : Shared) (H : Hp) (C : Addr) (cl : List (Str × Addr)) (fp : List Addr),
      DE (blk X scope s H C cl fp) τ2 ((p, .l acc) :: O) elt fun w O4 => w = .d (f d) ∧ O4 = (p, .l acc) :: O)
    (he : ∀ p, PL p (ds.map f) O) : LcP X τ O elt [] scope vs g PL ds := by
  refine ⟨fun d => some (f d), hz, (fun i d hd => ?_), (fun p => by rw [List.filterMap_eq_map']; exact he p)⟩
  obtain ⟨τ2, h1, h2⟩ := hb i d hd
  exact ⟨τ2, h1, true, (fun h => nomatch h), fun p acc s H C cl fp => ⟨dts_nil ⟨rfl, rfl⟩, fun _ => (h2 p acc s H C cl fp).mono fun w O4 ⟨a, b⟩ => ⟨b, f d, a, rfl⟩⟩⟩
theorem filterMap_if (k : PyData → Bool) (f : PyData → PyData) : ∀ ds : List PyData, ds.filterMap (fun d => if k d = true then some (f d) else none) = (ds.filter k).map f
  | [] => rfl
  | x :: r => by
    have ih := filterMap_if k f r
    by_cases h : k x = true
    · simp [List.filter_cons, List.filterMap_cons, h, ih]
    · simp [List.filter_cons, List.filterMap_cons, h, ih]
theorem lcp_filter {vs : List Nat} {PL : Addr → List PyData → Own → Prop} {ds : List PyData} {c : Expr} (k : PyData → Bool) (f : PyData → PyData) (hz : ds.length < sizeLine)
    (hb : ∀ (i : Nat) (d : PyData), ds[i]? = some d → ∃ τ2, TgOk X.K g vs d (wipeT τ vs) τ2 ∧ ∀ (p : Addr) (acc : List PyData) (s : Shared) (H : Hp) (C : Addr) (cl : List (Str × Addr)) (fp : List Addr),
      DT (blk X scope s H C cl fp) τ2 ((p, .l acc) :: O) c (fun b O3 => b = k d ∧ O3 = (p, .l acc) :: O) ∧
      (k d = true → DE (blk X scope s H C cl fp) τ2 ((p, .l acc) :: O) elt fun w O4 => w = .d (f d) ∧ O4 = (p, .l acc) :: O))
    (he : ∀ p, PL p ((ds.filter k).map f) O) : LcP X τ O elt [c] scope vs g PL ds := by
  refine ⟨fun d => if k d = true then some (f d) else none, hz, (fun i d hd => ?_), (fun p => by rw [filterMap_if]; exact he p)⟩
  obtain ⟨τ2, h1, h2⟩ := hb i d hd
  exact ⟨τ2, h1, k d, (fun h => by simp [h]), fun p acc s H C cl fp => ⟨dts_one (h2 p acc s H C cl fp).1, fun hk => ((h2 p acc s H C cl fp).2 hk).mono fun w O4 ⟨a, b⟩ => ⟨b, f d, a, by simp [hk]⟩⟩⟩
/-- a list that can be read is walked: its length and items stay as long as what is owned stays -/
theorem rdl_walk {K : PySem.W.Frag} {Hr H : Hp} {O : Own} {w : W} {ds : List PyData} {p : Addr} (r : RdL w O ds) (S : Sep K Hr O H) (k : WOk K Hr (.ref p) w) : ∃ xs, H p = some (.lst xs) ∧ DvAll K Hr xs ds := by
  obtain ⟨q, xs, e, u1, u2⟩ := r.at S k
  cases e
  exact ⟨xs, u1, u2⟩
theorem lcp_data {vs : List Nat} {PL : Addr → List PyData → Own → Prop} (h : DE X τ O iter fun w O1 => ∃ ds, RdL w O1 ds ∧ LcP X τ O1 elt ifs scope vs g PL ds)
    {σ : L2.St} {Hr H : Hp} {Q : VK} (hE : En X.K Hr σ τ) (hS : Sep X.K Hr O H) (hQ : ∀ v H', PO X.K Hr (fun w O' => ∃ p acc O2, w = .r (.ref p) ∧ O' = (p, .l acc) :: O2 ∧ PL p acc O2) v H' → Q v H') :
    tLc (ti X t iter) g (tIfs X scope ifs) (tElt X scope elt) vs σ H Q := by
  intro pins s I
  refine (pi_list pe_te).run pins s σ H _ I ?_
  refine h σ Hr H _ hE hS fun v H1 ⟨w, O1, Hr1, ⟨ds, r, f, hz, hb, he⟩, e1, s1, k1⟩ => ?_
  obtain ⟨p, xs, rfl, u1, u2⟩ := r.at s1 k1
  refine ⟨p, rfl, ⟨xs, SqL.of u1⟩, ?_⟩
  intro Dl hD
  refine lc_it (J := Itl X.K p) (n := ds.length) (G := fun H => ∃ xs, SqL X.K H p xs ∧ xs.length = ds.length) (Y := fun i H v H' => H' = H ∧ ∀ xs, SqL X.K H p xs → xs[i]? = some v) (g := g) (vs := vs) (σ := σ) (tt := tIfs X scope ifs) (te := tElt X scope elt) (Qd := fun H' => Q (.ref Dl) H')
    ⟨fun i H hi ⟨xs, q, hl⟩ => ⟨xs, xs[i], q, by simp [hl, hi]⟩, fun H ⟨xs, q, hl⟩ => ⟨xs, q, by omega⟩, fun _ _ _ _ _ q y => ⟨y.1, y.2⟩⟩
    (fun i H' => ∃ Hr', Same Hr1 Hr' ∧ Sep X.K Hr' ((Dl, .l ((ds.take i).filterMap f)) :: O1) H') ⟨Hr1, Same.refl _, s1.newOwn hD ⟨[], upd_same, .nil⟩⟩ ?_ ?_ ?_
  · rintro i H' _ ⟨Hr', e, s'⟩
    obtain ⟨ys, y1, y2⟩ := rdl_walk r s'.drop (k1.mono e)
    exact ⟨ys, SqL.of y1, y2.len⟩
  · rintro i x H2 H3 hi ⟨Hr', e, s'⟩ ⟨rfl, y⟩
    obtain ⟨ys, y1, y2⟩ := rdl_walk r s'.drop (k1.mono e)
    obtain ⟨d, hd, kd⟩ := y2.getV (y ys (SqL.of y1))
    obtain ⟨τ2, htg, k, hf, h2⟩ := hb i d hd
    have e3 : Same Hr Hr' := e1.trans e
    have hl : ((ds.take i).filterMap f).length < sizeLine := Nat.lt_of_le_of_lt (List.length_filterMap_le f _) (Nat.lt_of_le_of_lt (List.length_take_le' i ds) hz)
    have hn : (ds.take (i + 1)).filterMap f = (ds.take i).filterMap f ++ [d].filterMap f := by
      rw [List.take_succ, hd, List.filterMap_append]
      rfl
    refine htg x (wipe σ vs) Hr' H3 _ ((hE.mono e3).wiped vs) s'.ex kd ?_
    intro σ' hE' hw
    refine ⟨hw σ rfl, ?_⟩
    intro s0 H0 C cl fp
    refine (h2 Dl _ s0 H0 C cl fp).1 σ' Hr' H3 _ hE' s' fun b H4 ⟨O4, Hr4, ⟨hb1, hb2⟩, e4, s4⟩ => ?_
    subst hb1 hb2
    cases b with
    | true =>
      rw [if_pos rfl]
      intro s0 H0 C cl fp
      refine (h2 Dl _ s0 H0 C cl fp).2 rfl σ' Hr4 H4 _ (hE'.mono e4) s4 fun v H5 ⟨w, O5, Hr5, ⟨ho, y, hw, hy⟩, e5, s5, k5⟩ => ?_
      subst hw ho
      obtain ⟨us, z1, z2⟩ := s5.cell (j := 0) rfl
      exact ⟨us, z1, by rw [z2.len]; exact hl, Hr5, (e.trans e4).trans e5, by
        rw [hn, show [d].filterMap f = [y] by simp [hy]]
        exact s5.put (j := 0) rfl ⟨_, upd_same, z2.snoc k5⟩⟩
    | false =>
      rw [if_neg Bool.false_ne_true]
      exact ⟨Hr4, e.trans e4, by
        rw [hn, show [d].filterMap f = [] by simp [hf rfl], List.append_nil]
        exact s4⟩
  · rintro H' ⟨Hr', e, s'⟩
    rw [List.take_length] at s'
    exact hQ _ _ ⟨_, _, Hr', ⟨Dl, _, _, rfl, rfl, he Dl⟩, e1.trans e, s', rfl⟩
/-- [elt for t in xs if ..], xs a list, owned or not; the new list owned -/
theorem de_lcP (own : List (Str × Nat)) (g : TG) (hN : X.N.Nodup) (ok : BlkOk X.N X.env.scope scope own) (hg : ∀ (s : Shared) (H : Hp) (C : Addr) (cl : List (Str × Addr)) (fp : List Addr), PG (blk X scope s H C cl fp) t g)
    (h : DE X τ O iter fun w O1 => ∃ ds, RdL w O1 ds ∧ LcP X τ O1 elt ifs scope (own.map (·.2)) g (fun q acc O2 => P (.r (.ref q)) ((q, .l acc) :: O2)) ds)
    (hc : X.calm = true := by rfl) (hs : ∀ x, foldedSetIterable iter X.env x = pure x := by intro _; rfl) :
    DE X τ O (.ListComp elt [⟨t, iter, ifs, 0⟩] scope pos) P := by
  refine ⟨?_⟩
  intro σ Hr H Q hE hS hQ pins s I
  refine (pe_lc (own := own) (tt := tIfs X scope ifs) (te := tElt X scope elt) hc hN pi_ti ok hg (fun s H C cl fp => ⟨fun pins s1 σ H1 Q I h => h s H C cl fp pins s1 I⟩) (fun s H C cl fp => ⟨fun pins s1 σ H1 Q I h => h s H C cl fp pins s1 I⟩) hs).run pins s σ H Q I ?_
  exact lcp_data h hE hS fun v H' ⟨w, O', Hr', ⟨p, acc, O2, hw, ho, hP⟩, e, s', k⟩ => hQ v H' ⟨w, O', Hr', by rw [hw, ho]; exact hP, e, s', k⟩
/-- name = [..] -/
theorem ds_setLcP {spos : Pos} (i : Nat) (own : List (Str × Nat)) (g : TG) {y : Str} {py : Pos} (hN : X.N.Nodup) (ok : BlkOk X.N X.env.scope scope own) (hg : ∀ (s : Shared) (H : Hp) (C : Addr) (cl : List (Str × Addr)) (fp : List Addr), PG (blk X scope s H C cl fp) t g)
    (h : DE X τ O iter fun w O1 => ∃ ds, RdL w O1 ds ∧ LcP X τ O1 elt ifs scope (own.map (·.2)) g (fun _ acc O2 => D.nx (τ.set i (some (.d (.list acc)))) O2) ds)
    (hsw : swapsWith (.ListComp elt [⟨t, iter, ifs, 0⟩] scope pos) (some (.Name y py)) spos.line X.env = pure true := by exact sw_true rfl rfl rfl (by decide +kernel))
    (hc : X.calm = true := by rfl) (hs : ∀ x, foldedSetIterable iter X.env x = pure x := by intro _; rfl) (hy : X.N[i]? = some y := by rfl) (hyl : X.env.scope.names.lookup y = some .local := by rfl) :
    DS X τ O (.Assign [.Name y py] (.ListComp elt [⟨t, iter, ifs, 0⟩] scope pos) spos) D := by
  refine ⟨?_⟩
  intro σ Hr H E hE hS hD pins s I
  refine (ps_setLc (own := own) (tt := tIfs X scope ifs) (te := tElt X scope elt) hc hN hy hyl hsw pi_ti ok hg (fun s H C cl fp => ⟨fun pins s1 σ H1 Q I h => h s H C cl fp pins s1 I⟩) (fun s H C cl fp => ⟨fun pins s1 σ H1 Q I h => h s H C cl fp pins s1 I⟩) hs).run pins s σ H E I ?_
  exact lcp_data (PL := fun _ acc O2 => D.nx (τ.set i (some (.d (.list acc)))) O2) h hE hS fun v H' ⟨w, O', Hr', ⟨p, acc, O2, hw, ho, hP⟩, e, s', k⟩ => by
    subst hw ho
    obtain ⟨Hr2, e2, s2, d⟩ := s'.keep
    have k' : v = .ref p := k
    subst k'
    exact hD.nx _ H' ⟨_, _, Hr2, hP, e.trans e2, s2, (hE.mono (e.trans e2)).set i (v := .ref p) (w := .d (.list acc)) d⟩
theorem ds_setLcP1 {spos : Pos} {y : Str} {tp : Pos} (k i : Nat) {z : Str} {zp : Pos} (hN : X.N.Nodup) (ok : BlkOk X.N X.env.scope scope [(y, i)])
    (h : DE X τ O iter fun w O1 => ∃ ds, RdL w O1 ds ∧ LcP X τ O1 elt ifs scope [i] (gName i) (fun _ acc O2 => D.nx (τ.set k (some (.d (.list acc)))) O2) ds)
    (hg : ∀ (s : Shared) (H : Hp) (C : Addr) (cl : List (Str × Addr)) (fp : List Addr), PG (blk X scope s H C cl fp) (.Name y tp) (gName i) := by exact fun _ _ _ _ _ => pg_name (by assumption) rfl (by first | exact Or.inl rfl | exact Or.inr rfl))
    (hsw : swapsWith (.ListComp elt [⟨.Name y tp, iter, ifs, 0⟩] scope pos) (some (.Name z zp)) spos.line X.env = pure true := by exact sw_true rfl rfl rfl (by decide +kernel))
    (hc : X.calm = true := by rfl) (hs : ∀ x, foldedSetIterable iter X.env x = pure x := by intro _; rfl) (hy : X.N[k]? = some z := by rfl) (hyl : X.env.scope.names.lookup z = some .local := by rfl) :
    DS X τ O (.Assign [.Name z zp] (.ListComp elt [⟨.Name y tp, iter, ifs, 0⟩] scope pos) spos) D := ds_setLcP k [(y, i)] (gName i) hN ok hg h hsw hc hs hy hyl
theorem de_lcPd (own : List (Str × Nat)) (g : TG) (hN : X.N.Nodup) (ok : BlkOk X.N X.env.scope scope own) (hg : ∀ (s : Shared) (H : Hp) (C : Addr) (cl : List (Str × Addr)) (fp : List Addr), PG (blk X scope s H C cl fp) t g)
    (h : DE X τ O iter fun w O1 => ∃ ds, RdL w O1 ds ∧ LcP X τ O1 elt ifs scope (own.map (·.2)) g (fun q acc O2 => P (.d (.list acc)) O2) ds)
    (hc : X.calm = true := by rfl) (hs : ∀ x, foldedSetIterable iter X.env x = pure x := by intro _; rfl) :
    DE X τ O (.ListComp elt [⟨t, iter, ifs, 0⟩] scope pos) P :=
  de_kp (de_lcP own g hN ok hg (h.mono fun w O1 ⟨ds, r, f, hz, hb, he⟩ => ⟨ds, r, f, hz, hb, fun p => .inr ⟨p, _, _, rfl, rfl, he p⟩⟩) hc hs)
/-- over one name -/
theorem de_lcP1 {y : Str} {tp : Pos} (i : Nat) (hN : X.N.Nodup) (ok : BlkOk X.N X.env.scope scope [(y, i)])
    (h : DE X τ O iter fun w O1 => ∃ ds, RdL w O1 ds ∧ LcP X τ O1 elt ifs scope [i] (gName i) (fun _ acc O2 => P (.d (.list acc)) O2) ds)
    (hg : ∀ (s : Shared) (H : Hp) (C : Addr) (cl : List (Str × Addr)) (fp : List Addr), PG (blk X scope s H C cl fp) (.Name y tp) (gName i) := by exact fun _ _ _ _ _ => pg_name (by assumption) rfl (by first | exact Or.inl rfl | exact Or.inr rfl)) (hc : X.calm = true := by rfl) (hs : ∀ x, foldedSetIterable iter X.env x = pure x := by intro _; rfl) :
    DE X τ O (.ListComp elt [⟨.Name y tp, iter, ifs, 0⟩] scope pos) P := de_lcPd [(y, i)] (gName i) hN ok hg h hc hs
theorem de_lcP1O {y : Str} {tp : Pos} (i : Nat) (hN : X.N.Nodup) (ok : BlkOk X.N X.env.scope scope [(y, i)])
    (h : DE X τ O iter fun w O1 => ∃ ds, RdL w O1 ds ∧ LcP X τ O1 elt ifs scope [i] (gName i) (fun q acc O2 => P (.r (.ref q)) ((q, .l acc) :: O2)) ds)
    (hg : ∀ (s : Shared) (H : Hp) (C : Addr) (cl : List (Str × Addr)) (fp : List Addr), PG (blk X scope s H C cl fp) (.Name y tp) (gName i) := by exact fun _ _ _ _ _ => pg_name (by assumption) rfl (by first | exact Or.inl rfl | exact Or.inr rfl)) (hc : X.calm = true := by rfl) (hs : ∀ x, foldedSetIterable iter X.env x = pure x := by intro _; rfl) :
    DE X τ O (.ListComp elt [⟨.Name y tp, iter, ifs, 0⟩] scope pos) P := de_lcP [(y, i)] (gName i) hN ok hg h hc hs
end
end DL

set_option Elab.async false
set_option linter.all false
set_option maxRecDepth 100000
set_option maxHeartbeats 2000000
/-! comprehensions that make a list of owned things -/
namespace DL
open PySem PySem.Spec PyProof.Rows L2
section
variable {X : Cx} {τ : Tau} {O : Own} {P : W → Own → Prop} {D : DEn} {elt t iter : Expr} {scope : Scope} {pos : Pos} {g : TG} {w1 : W}
def LcR (X : Cx) (τ : Tau) (O : Own) (elt : Expr) (scope : Scope) (vs : List Nat) (g : TG) (P : Addr → Own → Prop) (ds : List PyData) : Prop :=
  ∀ p : Addr, ∃ Iv : Nat → List V → Own → Prop, Iv 0 [] ((p, Cell.o (.lst [])) :: O) ∧
    (∀ (i : Nat) (d : PyData) (us : List V) (O' : Own), ds[i]? = some d → Iv i us O' → (∃ j : Nat, O'[j]? = some (p, Cell.o (.lst us))) ∧ ∃ τ2, TgOk X.K g vs d (wipeT τ vs) τ2 ∧
      ∀ (s : Shared) (H : Hp) (C : Addr) (cl : List (Str × Addr)) (fp : List Addr), DE (blk X scope s H C cl fp) τ2 O' elt fun w O4 => ∃ (u : V) (j : Nat), w = .r u ∧ O4[j]? = some (p, Cell.o (.lst us)) ∧ us.length < sizeLine ∧ Iv (i + 1) (us ++ [u]) (O4.set j (p, Cell.o (.lst (us ++ [u]))))) ∧
    ∀ (us : List V) (O' : Own), Iv ds.length us O' → P p O'
theorem de_lcR (own : List (Str × Nat)) (g : TG) (hN : X.N.Nodup) (ok : BlkOk X.N X.env.scope scope own) (hg : ∀ (s : Shared) (H : Hp) (C : Addr) (cl : List (Str × Addr)) (fp : List Addr), PG (blk X scope s H C cl fp) t g)
    (h : IterD X t iter τ O fun ds O1 => LcR X τ O1 elt scope (own.map (·.2)) g (fun p O2 => P (.r (.ref p)) O2) ds) (hc : X.calm = true := by rfl) (hs : ∀ x, foldedSetIterable iter X.env x = pure x := by intro _; rfl) :
    DE X τ O (.ListComp elt [⟨t, iter, [], 0⟩] scope pos) P := by
  refine ⟨?_⟩
  intro σ Hr H Q hE hS hQ pins s I
  refine (pe_lc (own := own) (tt := tIfs X scope []) (te := tElt X scope elt) hc hN pi_ti ok hg (fun s H C cl fp => ⟨fun pins s1 σ H1 Q I h => h s H C cl fp pins s1 I⟩) (fun s H C cl fp => ⟨fun pins s1 σ H1 Q I h => h s H C cl fp pins s1 I⟩) hs).run pins s σ H Q I ?_
  refine h σ Hr H _ hE hS fun J H1 ds O1 Hr1 hL e1 s1 ok => ?_
  intro Dl hD
  obtain ⟨Iv, h0, hstep, hend⟩ := (show LcR X τ O1 elt scope (own.map (·.2)) g (fun p O2 => P (.r (.ref p)) O2) ds from hL) Dl
  refine lc_it (g := g) (vs := own.map (·.2)) (σ := σ) (tt := tIfs X scope []) (te := tElt X scope elt) (Qd := fun H' => Q (.ref Dl) H') ok (fun i H' => ∃ (us : List V) (O' : Own) (Hr' : Hp), Iv i us O' ∧ Same Hr1 Hr' ∧ Sep X.K Hr' O' H') ⟨[], _, Hr1, h0, Same.refl _, s1.newOwn (c := .o (.lst [])) hD upd_same⟩ (fun i H' _ ⟨_, _, Hr', _, e, s'⟩ => fun a o q => s'.ex a o (e a o q)) ?_ ?_
  · intro i x H2 H3 hi ⟨us, O', Hr', hI, e, s'⟩ y
    obtain ⟨d, Hr2, hd, e2, s2, kd⟩ := y.sep e s'
    obtain ⟨-, τ2, htg, hb⟩ := hstep i d us O' hd hI
    have e3 : Same Hr Hr2 := (e1.trans e).trans e2
    refine htg x (wipe σ (own.map (·.2))) Hr2 H3 _ ((hE.mono e3).wiped (own.map (·.2))) s2.ex kd ?_
    intro σ' hE' hw
    refine ⟨hw σ rfl, ?_⟩
    intro s0 H0 C cl fp
    refine dts_nil (P := fun b O3 => b = true ∧ O3 = O') ⟨rfl, rfl⟩ σ' Hr2 H3 _ hE' s2 fun b H4 ⟨O4, Hr4, ⟨hb1, hb2⟩, e4, s4⟩ => ?_
    subst hb1 hb2
    rw [if_pos rfl]
    intro s0 H0 C cl fp
    refine hb s0 H0 C cl fp σ' Hr4 H4 _ (hE'.mono e4) s4 fun v H5 ⟨w, O5, Hr5, ⟨u, j, hw, hj, hz, hI5⟩, e5, s5, k5⟩ => ?_
    subst hw
    cases k5
    have z1 : H5 Dl = some (.lst us) := s5.cell hj
    exact ⟨us, z1, hz, us ++ [v], _, Hr5, hI5, ((e.trans e2).trans e4).trans e5, s5.put hj (c' := .o (.lst (us ++ [v]))) upd_same⟩
  · intro H' ⟨us, O', Hr', hI, e, s'⟩
    exact hQ _ _ ⟨_, _, Hr', hend us O' hI, e1.trans e, s', rfl⟩
theorem de_lcR1 {y : Str} {tp : Pos} (i : Nat) (hN : X.N.Nodup) (ok : BlkOk X.N X.env.scope scope [(y, i)])
    (h : IterD X (.Name y tp) iter τ O fun ds O1 => LcR X τ O1 elt scope [i] (gName i) (fun p O2 => P (.r (.ref p)) O2) ds)
    (hg : ∀ (s : Shared) (H : Hp) (C : Addr) (cl : List (Str × Addr)) (fp : List Addr), PG (blk X scope s H C cl fp) (.Name y tp) (gName i) := by exact fun _ _ _ _ _ => pg_name (by assumption) rfl (by first | exact Or.inl rfl | exact Or.inr rfl)) (hc : X.calm = true := by rfl) (hs : ∀ x, foldedSetIterable iter X.env x = pure x := by intro _; rfl) :
    DE X τ O (.ListComp elt [⟨.Name y tp, iter, [], 0⟩] scope pos) P := de_lcR [(y, i)] (gName i) hN ok hg h hc hs
/-- xs * k, owned -/
theorem b_repLO {ds : List PyData} {k : Int} (r1 : RdL w1 O ds) (h1 : -(2 ^ 63) ≤ k) (h2 : k < 2 ^ 63) (hl : ds.length * k.toNat ≤ sizeLine) (h : ∀ p, P (.r (.ref p)) ((p, .l (List.replicate k.toNat ds).flatten) :: O)) : BinD X (binaryOp .Mult) w1 (.d (.int k)) O P :=
  bind_of op_rep fun v1 v2 Hr H Q hS k1 k2 hQ => by
    obtain ⟨p, vs, rfl, e1, a1⟩ := r1.at hS k1
    cases k2
    exact ⟨_, _, _, rfl, rfl, e1, h1, h2, by rw [a1.len]; exact hl, fun p hp => hQ _ _ ⟨_, _, Hr, h p, Same.refl _, hS.newOwn hp ⟨_, upd_same, DvAll_rep a1 _⟩, rfl⟩⟩
/-! ### things let go: from then on they are data -/
/-- a list of references to owned lists, let go -/
theorem Sep.freeze1 {K : PySem.W.Frag} {Hr H : Hp} {O : Own} {p : Addr} {ds : List PyData} (S : Sep K Hr ((p, .l ds) :: O) H) : ∃ Hr', Same Hr Hr' ∧ Sep K Hr' O H ∧ Dv K Hr' (.ref p) (.list ds) := S.keep
theorem Sep.freezeAll {K : PySem.W.Frag} {H : Hp} : ∀ (ps : List Addr) (dss : List (List PyData)) {Hr : Hp} {O : Own}, ps.length = dss.length → Sep K Hr (List.zipWith (fun p ds => (p, Cell.l ds)) ps dss ++ O) H →
    ∃ Hr', Same Hr Hr' ∧ Sep K Hr' O H ∧ DvAll K Hr' (ps.map V.ref) (dss.map PyData.list)
  | [], [], Hr, O, _, S => ⟨Hr, Same.refl _, S, .nil⟩
  | p :: ps, ds :: dss, Hr, O, hl, S => by
    obtain ⟨Hr1, e1, S1, d1⟩ := Sep.keep (show Sep K Hr ((p, .l ds) :: (List.zipWith (fun p ds => (p, Cell.l ds)) ps dss ++ O)) H from S)
    obtain ⟨Hr2, e2, S2, d2⟩ := Sep.freezeAll ps dss (by simpa using hl) S1
    exact ⟨Hr2, e1.trans e2, S2, .cons (dv_mono e2 d1) d2⟩
  | [], _ :: _, _, _, h, _ => by simp at h
  | _ :: _, [], _, _, h, _ => by simp at h
/-- an owned list of references becomes an owned list of data -/
theorem Sep.freezeL {K : PySem.W.Frag} {Hr H : Hp} {O : Own} {pv : Addr} {ps : List Addr} {dss : List (List PyData)} (hl : ps.length = dss.length) (S : Sep K Hr ((pv, .o (.lst (ps.map V.ref))) :: (List.zipWith (fun p ds => (p, Cell.l ds)) ps dss ++ O)) H) :
    ∃ Hr', Same Hr Hr' ∧ Sep K Hr' ((pv, .l (dss.map PyData.list)) :: O) H := by
  have S1 := S.sub (O' := List.zipWith (fun p ds => (p, Cell.l ds)) ps dss ++ ((pv, .o (.lst (ps.map V.ref))) :: O)) (Les.of List.perm_middle)
  obtain ⟨Hr', e, S2, d⟩ := Sep.freezeAll ps dss hl S1
  refine ⟨Hr', e, S2.ex, fun x hx => ?_, S2.nd⟩
  rcases List.mem_cons.mp hx with rfl | q
  · obtain ⟨a, b⟩ := S2.own _ List.mem_cons_self
    exact ⟨a, _, b, d⟩
  · exact S2.own x (List.mem_cons_of_mem _ q)
/-- an owned dict of references to owned lists becomes an owned dict of data -/
theorem Sep.freezeD {K : PySem.W.Frag} {Hr H : Hp} {O : Own} {pw : Addr} {ks : List Key} {ps : List Addr} {dss : List (List PyData)} (hk : ks.length = ps.length) (hl : ps.length = dss.length) (S : Sep K Hr ((pw, .o (.dK (ks.zip (ps.map V.ref)))) :: (List.zipWith (fun p ds => (p, Cell.l ds)) ps dss ++ O)) H) :
    ∃ Hr', Same Hr Hr' ∧ Sep K Hr' ((pw, .k (ks.zip (dss.map PyData.list))) :: O) H := by
  have S1 := S.sub (O' := List.zipWith (fun p ds => (p, Cell.l ds)) ps dss ++ ((pw, .o (.dK (ks.zip (ps.map V.ref)))) :: O)) (Les.of List.perm_middle)
  obtain ⟨Hr', e, S2, d⟩ := Sep.freezeAll ps dss hl S1
  have kd : ∀ (ks : List Key) (vs : List V) (es : List PyData), DvAll K Hr' vs es → KD K Hr' (ks.zip vs) (ks.zip es) := by
    intro ks
    induction ks with
    | nil => intro vs es _; exact .nil
    | cons k ks ih =>
      intro vs es h
      cases h with
      | nil => exact .nil
      | cons a b => exact .cons ⟨rfl, a⟩ (ih _ _ b)
  refine ⟨Hr', e, S2.ex, fun x hx => ?_, S2.nd⟩
  rcases List.mem_cons.mp hx with rfl | q
  · obtain ⟨a, b⟩ := S2.own _ List.mem_cons_self
    exact ⟨a, _, b, kd _ _ _ d⟩
  · exact S2.own x (List.mem_cons_of_mem _ q)
/-- before a statement: a change of what is told of the heap -/
theorem dss_turn {O' : Own} {rest : List Stmt} (q : ∀ {K : PySem.W.Frag} {Hr H : Hp}, Sep K Hr O H → ∃ Hr', Same Hr Hr' ∧ Sep K Hr' O' H) (h : DSs X τ O' rest D) : DSs X τ O rest D := ⟨fun σ Hr H E hE hS hD => by
  obtain ⟨Hr', e, S⟩ := q hS
  exact h σ Hr' H E (hE.mono e) S (hD.to e)⟩
end
end DL

set_option Elab.async false
set_option linter.all false
set_option maxRecDepth 100000
set_option maxHeartbeats 2000000
namespace DL
open PySem PySem.Spec PyProof.Rows L2
section
variable {X : Cx} {τ : Tau} {O : Own} {rest : List Stmt} {D : DEn}
/-- an owned list that a slot names is let go: the slot holds data from then on -/
theorem dss_let (i : Nat) {p : Addr} {ds : List PyData} (hi : τ[i]? = some (some (.r (.ref p)))) (h : DSs X (τ.set i (some (.d (.list ds)))) O rest D) : DSs X τ ((p, .l ds) :: O) rest D := ⟨fun σ Hr H E hE hS hD => by
  obtain ⟨Hr', e, S, d⟩ := hS.keep
  obtain ⟨v, hv, kv⟩ := hE.at_ i _ hi
  have kv' : v = .ref p := kv
  subst kv'
  have e2 : σ.set i (some (V.ref p)) = σ := by
    apply List.ext_getElem?
    intro k
    rw [List.getElem?_set]
    split
    · rename_i q
      subst q
      split
      · exact hv.symm
      · rename_i q2
        rw [List.getElem?_eq_none (by omega)]
    · rfl
  have hE' := (hE.mono e).set (v := .ref p) (w := .d (.list ds)) i d
  rw [e2] at hE'
  exact h σ Hr' H E hE' S (hD.to e)⟩
theorem b_plusI {P : W → Own → Prop} {i j : Int} (h : P (.d (.int (i + j))) O) : BinD X (inplaceOp .Add) (.d (.int i)) (.d (.int j)) O P := b_I0 iop_add (fun _ => .int _) h
end
end DL

set_option Elab.async false
set_option linter.all false
set_option maxRecDepth 100000
set_option maxHeartbeats 2000000
namespace PK
open PySem PySem.Spec PyProof.Rows L2 DL SX
/-! ### find, by codes -/
section
open PySem.Builtin PySem.Builtin.Str PySem.StrLaws
theorem occ_full (s sub : Str) (hi : Nat) : ∀ (l : List Nat) (st : Array Nat × Nat), st.fst.size = 1 → (forIn l st (occBody s sub hi 1)).run.fst = st.fst
  | [], st, h => rfl
  | a :: l, st, h => by
    rw [List.forIn_cons]
    unfold occBody
    rw [if_neg (by rw [h]; simp)]
    exact occ_full s sub hi l (st.fst, st.snd) h
theorem occ_first (s sub : Str) (hi : Nat) : ∀ (l : List Nat) (free : Nat), (∀ i ∈ l, free ≤ i) →
    (forIn l ((#[] : Array Nat), free) (occBody s sub hi 1)).run.fst.toList = (l.find? fun i => decide (i + sub.length ≤ hi ∧ subAt s sub i = true)).toList
  | [], free, _ => rfl
  | a :: l, free, hf => by
    rw [List.forIn_cons]
    unfold occBody
    have ha : free ≤ a := hf a (List.mem_cons_self ..)
    by_cases hc : a + sub.length ≤ hi ∧ subAt s sub a = true
    · have c1 : (((#[] : Array Nat), free).fst.size < 1 ∧ ((#[] : Array Nat), free).snd ≤ a) ∧ a + sub.length ≤ hi := ⟨⟨by simp, ha⟩, hc.1⟩
      rw [if_pos ⟨c1, hc.2⟩, List.find?_cons, decide_eq_true hc]
      have := occ_full s sub hi l (((#[] : Array Nat).push a), a + sub.length) (by simp)
      refine (congrArg Array.toList this).trans ?_
      rfl
    · have c2 : ¬ (((((#[] : Array Nat), free).fst.size < 1 ∧ ((#[] : Array Nat), free).snd ≤ a) ∧ a + sub.length ≤ hi) ∧ subAt s sub a = true) := fun h => hc ⟨h.1.2, h.2⟩
      rw [if_neg c2, List.find?_cons, decide_eq_false hc]
      have := occ_first s sub hi l free (fun i hi' => hf i (List.mem_cons_of_mem _ hi'))
      unfold occBody at this
      exact this
/-- the first place of c in l from lo on -/
def findC (l : List Nat) (c lo : Nat) : Option Nat := (List.range' lo (l.length + 1 - lo)).find? fun i => decide (l[i]? = some c)
theorem occ_one (l : List Nat) (c lo : Nat) : occurrences (S l) (S [c]) lo (S l).length 1 = (findC l c lo).toList := by
  rw [occ_eq, occ_first _ _ _ _ _ (fun i hi => by simp [List.mem_range'] at hi; omega)]
  have e : (fun i => decide (i + (S [c]).length ≤ (S l).length ∧ subAt (S l) (S [c]) i = true)) = fun i => decide (l[i]? = some c) := by
    funext i
    exact decide_eq_decide.mpr (subAt_one (S l) c i)
  rw [e]
  unfold findC
  rw [S_len]
theorem find3_eq {l : List Nat} {c n : Nat} : Txt.find3 (S l) (S [c]) (n : Int) = match findC l c (min n (n)) with | some k => (k : Int) | none => -1 := by
  unfold Txt.find3
  have e : fromIndex (S l).length (n : Int) = n := by
    unfold fromIndex
    rw [if_neg (by omega)]
    omega
  rw [e, occ_one, Nat.min_self]
  cases findC l c n <;> rfl
theorem findC_hit {pre mid post : List Nat} {c : Nat} (h : c ∉ mid) : findC (pre ++ (mid ++ c :: post)) c pre.length = some (pre.length + mid.length) := by
  unfold findC
  rw [List.find?_range'_eq_some]
  refine ⟨?_, ?_, ?_⟩
  · rw [decide_eq_true_iff, List.getElem?_append_right (by omega), show pre.length + mid.length - pre.length = mid.length by omega, List.getElem?_append_right (Nat.le_refl _)]
    simp
  · simp [List.mem_range']
    omega
  · intro j h1 h2
    simp only [Bool.not_eq_true', decide_eq_false_iff_not]
    rw [List.getElem?_append_right h1, List.getElem?_append_left (by omega)]
    intro q
    exact h (List.mem_of_getElem? q)
theorem findC_none {l : List Nat} {c lo : Nat} (h : c ∉ l.drop lo) : findC l c lo = none := by
  unfold findC
  rw [List.find?_eq_none]
  intro j hj
  simp [List.mem_range'] at hj
  simp only [decide_eq_true_iff]
  intro q
  apply h
  have : (l.drop lo)[j - lo]? = some c := by rw [List.getElem?_drop, show lo + (j - lo) = j by omega]; exact q
  exact List.mem_of_getElem? this
theorem find3_hit {pre mid post : List Nat} {c : Nat} (h : c ∉ mid) : Txt.find3 (S (pre ++ (mid ++ c :: post))) (S [c]) (pre.length : Int) = ((pre.length + mid.length : Nat) : Int) := by
  rw [find3_eq, Nat.min_self, findC_hit h]
theorem find3_none {l : List Nat} {c n : Nat} (h : c ∉ l.drop n) : Txt.find3 (S l) (S [c]) (n : Int) = -1 := by
  rw [find3_eq, Nat.min_self, findC_none h]
/-! ### the sign ahead -/
theorem sub0 (l : List Nat) (c : Nat) : subAt (S l) (S [c]) 0 = decide (l.head? = some c) := by
  rw [subAt_eq]
  show ((l.drop 0).take 1 == [c]) = _
  cases l with
  | nil => rfl
  | cons a r =>
    rw [Bool.eq_iff_iff, beq_iff_eq, decide_eq_true_iff]
    simp
theorem removeprefix_S (l : List Nat) (c : Nat) : Txt.removeprefix (S l) (S [c]) = S (if l.head? = some c then l.tail else l) := by
  unfold Txt.removeprefix
  rw [sub0]
  by_cases h : l.head? = some c
  · rw [if_pos (decide_eq_true h), if_pos h]
    cases l with
    | nil => simp at h
    | cons a r =>
      show Txt.affix _ (some (1, (S (a :: r)).length)) = _
      unfold Txt.affix
      have e : (((S (a :: r)).length - 1 == (S (a :: r)).length) : Bool) = false := by
        rw [S_len]
        simp
      simp only [e, Bool.false_eq_true, if_false]
      apply TL.ext_tl
      show (strSub (S (a :: r)) 1 (S (a :: r)).length).cps.toList = r
      unfold strSub
      rw [S_len]
      simp [Array.toList_extract, List.extract_eq_take_drop]
  · rw [if_neg (by simpa using h), if_neg h]
    rfl
theorem startswith_S (l : List Nat) (c : Nat) : Txt.startswith (S l) (S [c]) = decide (l.head? = some c) := by
  unfold Txt.startswith
  rw [sub0, S_len, S_len]
  cases l with
  | nil => rfl
  | cons a r => simp
theorem isDigit_of {c : Nat} (h : c < 128) : Unicode.isDigit c = (decide (48 ≤ c) && decide (c ≤ 57)) := by
  have e := PySem.W.os_isdigit h
  have e2 : Txt.isdigit ⟨#[c]⟩ = Unicode.isDigit c := by
    show (decide (1 > 0) && (#[c] : Array Nat).all Unicode.isDigit) = _
    simp
  rw [← e2]
  exact e
theorem isdigit_S {l : List Nat} (h : ∀ c ∈ l, c < 128) : Txt.isdigit (S l) = (!l.isEmpty && l.all fun c => decide (48 ≤ c) && decide (c ≤ 57)) := by
  unfold Txt.isdigit
  rw [S_len]
  have e : (S l).cps.all Unicode.isDigit = l.all fun c => decide (48 ≤ c) && decide (c ≤ 57) := by
    rw [← Array.all_toList]
    show l.all Unicode.isDigit = _
    rw [Bool.eq_iff_iff, List.all_eq_true, List.all_eq_true]
    exact ⟨fun q c hc => by rw [← isDigit_of (h c hc)]; exact q c hc, fun q c hc => by rw [isDigit_of (h c hc)]; exact q c hc⟩
  rw [e]
  cases l <;> rfl
end
end PK

set_option Elab.async false
set_option linter.all false
set_option maxRecDepth 100000
set_option maxHeartbeats 2000000
namespace PK
open PySem PySem.Spec PyProof.Rows L2 DL SX
/-! ### lines, by codes -/
def numC (i : Int) : List Nat := if i < 0 then 45 :: TL.numL i.natAbs else TL.numL i.natAbs
mutual
def lineC : PyData → List Nat
  | .none => [126]
  | .int i => 35 :: (numC i ++ [59])
  | .str z => 39 :: (TL.numL z.length ++ 58 :: z.cps.toList)
  | .tuple ds => 40 :: (linesC ds ++ [41])
  | .bool _ => []
  | .list _ => []
  | .dict _ => []
def linesC : List PyData → List Nat
  | [] => []
  | d :: ds => lineC d ++ linesC ds
end
/-- data that can be packed, at most n tuples one in another -/
def pkN (ok : Nat → Bool) : Nat → PyData → Bool
  | _, .none => true
  | _, .int i => decide (i.natAbs ≤ 1000000000000000000)
  | _, .str z => z.cps.toList.all ok
  | n + 1, .tuple ds => ds.all (pkN ok n)
  | _, _ => false
section
variable {ok : Nat → Bool}
theorem pkN_up : ∀ {n : Nat} {d : PyData}, pkN ok n d = true → pkN ok (n + 1) d = true
  | _, .none, _ => by simp [pkN]
  | _, .int _, h => by simpa [pkN] using h
  | _, .str _, h => by simpa [pkN] using h
  | 0, .tuple _, h => by simp [pkN] at h
  | n + 1, .tuple ds, h => by
    simp only [pkN, List.all_eq_true] at h
    rw [pkN, List.all_eq_true]
    exact fun d hd => pkN_up (h d hd)
  | 0, .bool _, h => by simp [pkN] at h
  | _ + 1, .bool _, h => by simp [pkN] at h
  | 0, .list _, h => by simp [pkN] at h
  | _ + 1, .list _, h => by simp [pkN] at h
  | 0, .dict _, h => by simp [pkN] at h
  | _ + 1, .dict _, h => by simp [pkN] at h
theorem pkN_le {n k : Nat} {d : PyData} (h : pkN ok n d = true) (hk : n ≤ k) : pkN ok k d = true := by
  induction hk with
  | refl => exact h
  | step _ ih => exact pkN_up ih
theorem pkN_int {n : Nat} {i : Int} (h : pkN ok n (.int i) = true) : i.natAbs ≤ 1000000000000000000 := by cases n <;> simpa [pkN] using h
theorem pkN_str {n : Nat} {z : Str} (h : pkN ok n (.str z) = true) : z.cps.toList.all ok = true := by cases n <;> simpa [pkN] using h
theorem pkN_tup {n : Nat} {ds : List PyData} (h : pkN ok n (.tuple ds) = true) : ∃ m, n = m + 1 ∧ ∀ d ∈ ds, pkN ok m d = true := by
  cases n with
  | zero => simp [pkN] at h
  | succ m => exact ⟨m, rfl, by simpa [pkN] using h⟩
theorem pkN_list {n : Nat} {ds : List PyData} (h : pkN ok n (.list ds) = true) : False := by cases n <;> simp [pkN] at h
theorem pkN_bool {n : Nat} {k : Bool} (h : pkN ok n (.bool k) = true) : False := by cases n <;> simp [pkN] at h
theorem pkN_dict {n : Nat} {k} (h : pkN ok n (.dict k) = true) : False := by cases n <;> simp [pkN] at h
end
theorem lineC_pos : ∀ {ok : Nat → Bool} {n : Nat} {d : PyData}, pkN ok n d = true → ∃ c r, lineC d = c :: r ∧ c ≠ 41
  | _, _, .none, _ => ⟨126, [], by rw [lineC], by decide⟩
  | _, _, .int i, _ => ⟨35, _, by rw [lineC], by decide⟩
  | _, _, .str z, _ => ⟨39, _, by rw [lineC], by decide⟩
  | _, _, .tuple ds, _ => ⟨40, _, by rw [lineC], by decide⟩
  | _, _, .list _, h => (pkN_list h).elim
  | _, _, .bool _, h => (pkN_bool h).elim
  | _, _, .dict _, h => (pkN_dict h).elim
theorem numC_free {i : Int} {c : Nat} (h : c ≠ 45) (h2 : c < 48 ∨ 57 < c) : c ∉ numC i := by
  unfold numC
  split
  · rw [List.mem_cons]
    rintro (q | q)
    · exact h q
    · exact TL.numL_free h2 q
  · exact TL.numL_free h2
theorem numC_inj {i j : Int} (h : numC i = numC j) : i = j := by
  unfold numC at h
  have f : ∀ n, (45 : Nat) ∉ TL.numL n := fun n => TL.numL_free (.inl (by decide))
  split at h <;> split at h
  · have := TL.numL_inj (List.cons.inj h).2
    omega
  · exact absurd (h ▸ List.mem_cons_self) (f _)
  · exact absurd (h ▸ List.mem_cons_self) (f _)
  · have := TL.numL_inj h
    omega
theorem split_one {c : Nat} : ∀ {p q r s : List Nat}, c ∉ p → c ∉ q → p ++ c :: r = q ++ c :: s → p = q ∧ r = s
  | [], [], r, s, _, _, h => ⟨rfl, (List.cons.inj h).2⟩
  | [], b :: q, r, s, _, h2, h => absurd (List.cons.inj h).1 (fun e => h2 (e ▸ List.mem_cons_self))
  | a :: p, [], r, s, h1, _, h => absurd (List.cons.inj h).1 (fun e => h1 (e ▸ List.mem_cons_self))
  | a :: p, b :: q, r, s, h1, h2, h => by
    obtain ⟨e1, e2⟩ := List.cons.inj h
    obtain ⟨e3, e4⟩ := split_one (fun m => h1 (List.mem_cons_of_mem _ m)) (fun m => h2 (List.mem_cons_of_mem _ m)) e2
    exact ⟨by rw [e1, e3], e4⟩
theorem str_ext {x y : Str} (h : x.cps.toList = y.cps.toList) : x = y := TL.ext_tl h
mutual
theorem line_inj {ok : Nat → Bool} : ∀ (d : PyData) {n n' : Nat} (d' : PyData) {r r' : List Nat}, pkN ok n d = true → pkN ok n' d' = true → lineC d ++ r = lineC d' ++ r' → d = d' ∧ r = r'
  | .none, _, _, d', r, r', _, h', h => by
    cases d' with
    | none => rw [lineC] at h; exact ⟨rfl, (List.cons.inj h).2⟩
    | int j => rw [lineC, lineC] at h; exact absurd (List.cons.inj h).1 (by decide)
    | str j => rw [lineC, lineC] at h; exact absurd (List.cons.inj h).1 (by decide)
    | tuple j => rw [lineC, lineC] at h; exact absurd (List.cons.inj h).1 (by decide)
    | bool j => exact (pkN_bool h').elim
    | list j => exact (pkN_list h').elim
    | dict j => exact (pkN_dict h').elim
  | .int i, _, _, d', r, r', _, h', h => by
    cases d' with
    | none => rw [lineC, lineC] at h; exact absurd (List.cons.inj h).1 (by decide)
    | int j =>
      rw [lineC, lineC, List.cons_append, List.cons_append, List.append_assoc, List.append_assoc] at h
      obtain ⟨e1, e2⟩ := split_one (numC_free (by decide) (by decide)) (numC_free (by decide) (by decide)) (List.cons.inj h).2
      exact ⟨by rw [numC_inj e1], e2⟩
    | str j => rw [lineC, lineC] at h; exact absurd (List.cons.inj h).1 (by decide)
    | tuple j => rw [lineC, lineC] at h; exact absurd (List.cons.inj h).1 (by decide)
    | bool j => exact (pkN_bool h').elim
    | list j => exact (pkN_list h').elim
    | dict j => exact (pkN_dict h').elim
  | .str z, _, _, d', r, r', _, h', h => by
    cases d' with
    | none => rw [lineC, lineC] at h; exact absurd (List.cons.inj h).1 (by decide)
    | int j => rw [lineC, lineC] at h; exact absurd (List.cons.inj h).1 (by decide)
    | str y =>
      rw [lineC, lineC, List.cons_append, List.cons_append, List.append_assoc, List.append_assoc] at h
      obtain ⟨e1, e2⟩ := split_one (TL.numL_free (.inr (by decide))) (TL.numL_free (.inr (by decide))) (List.cons.inj h).2
      have e3 : z.length = y.length := TL.numL_inj e1
      obtain ⟨e4, e5⟩ := List.append_inj e2 e3
      exact ⟨by rw [str_ext e4], e5⟩
    | tuple j => rw [lineC, lineC] at h; exact absurd (List.cons.inj h).1 (by decide)
    | bool j => exact (pkN_bool h').elim
    | list j => exact (pkN_list h').elim
    | dict j => exact (pkN_dict h').elim
  | .tuple ds, _, _, d', r, r', h0, h', h => by
    cases d' with
    | none => rw [lineC, lineC] at h; exact absurd (List.cons.inj h).1 (by decide)
    | int j => rw [lineC, lineC] at h; exact absurd (List.cons.inj h).1 (by decide)
    | str j => rw [lineC, lineC] at h; exact absurd (List.cons.inj h).1 (by decide)
    | tuple es =>
      rw [lineC, lineC, List.cons_append, List.cons_append, List.append_assoc, List.append_assoc] at h
      obtain ⟨m, rfl, hd⟩ := pkN_tup h0
      obtain ⟨m', rfl, he⟩ := pkN_tup h'
      obtain ⟨e1, e2⟩ := lines_inj ds es hd he (List.cons.inj h).2
      exact ⟨by rw [e1], e2⟩
    | bool j => exact (pkN_bool h').elim
    | list j => exact (pkN_list h').elim
    | dict j => exact (pkN_dict h').elim
  | .bool _, _, _, _, _, _, h, _, _ => (pkN_bool h).elim
  | .list _, _, _, _, _, _, h, _, _ => (pkN_list h).elim
  | .dict _, _, _, _, _, _, h, _, _ => (pkN_dict h).elim
theorem lines_inj {ok : Nat → Bool} : ∀ (ds : List PyData) {n n' : Nat} (es : List PyData) {r r' : List Nat}, (∀ d ∈ ds, pkN ok n d = true) → (∀ d ∈ es, pkN ok n' d = true) → linesC ds ++ ([41] ++ r) = linesC es ++ ([41] ++ r') → ds = es ∧ r = r'
  | [], _, _, [], r, r', _, _, h => ⟨rfl, (List.cons.inj h).2⟩
  | [], _, _, e :: es, r, r', _, he, h => by
    obtain ⟨c, q, e1, e2⟩ := lineC_pos (he e (by simp))
    rw [linesC, linesC, e1] at h
    exact absurd (List.cons.inj h).1.symm e2
  | d :: ds, _, _, [], r, r', hd, _, h => by
    obtain ⟨c, q, e1, e2⟩ := lineC_pos (hd d (by simp))
    rw [linesC, linesC, e1] at h
    exact absurd (List.cons.inj h).1 e2
  | d :: ds, _, _, e :: es, r, r', hd, he, h => by
    rw [linesC, linesC, List.append_assoc, List.append_assoc] at h
    obtain ⟨e1, e2⟩ := line_inj d e (hd d (by simp)) (he e (by simp)) h
    obtain ⟨e3, e4⟩ := lines_inj ds es (fun x hx => hd x (by simp [hx])) (fun x hx => he x (by simp [hx])) e2
    exact ⟨by rw [e1, e3], e4⟩
end
/-! ### signs of a line -/
theorem numL_signs {n c : Nat} (h : c ∈ TL.numL n) : 48 ≤ c ∧ c ≤ 57 := TL.numL_digits n c h
theorem numC_val {i : Int} (h : i.natAbs ≤ 1000000000000000000) : intText? (S (numC i)) = some i := by
  have hl : (TL.numL i.natAbs).length ≤ 19 := TL.numL_len (by decide) (Nat.lt_of_le_of_lt h (by decide))
  unfold numC
  split
  · rename_i hi
    have e := intText_neg (x := S (45 :: TL.numL i.natAbs)) (cs := TL.numL i.natAbs) rfl (TL.numL_digits _) (TL.numL_ne _) (by rw [S_len]; simp only [List.length_cons]; omega)
    rw [TL.numL_val] at e
    rw [e]
    congr 1
    omega
  · have e := intText_digits (x := S (TL.numL i.natAbs)) (TL.numL_digits _) (TL.numL_ne _) (by rw [S_len]; omega)
    rw [show (S (TL.numL i.natAbs)).cps.toList = TL.numL i.natAbs from rfl, TL.numL_val] at e
    rw [e]
    congr 1
    omega
theorem numC_len {i : Int} (h : i.natAbs ≤ 1000000000000000000) : (numC i).length ≤ 20 := by
  have hl : (TL.numL i.natAbs).length ≤ 19 := TL.numL_len (by decide) (Nat.lt_of_le_of_lt h (by decide))
  unfold numC
  split
  · simp only [List.length_cons]; omega
  · omega
theorem str_int (i : Int) : Str.ofString (toString i) = S (numC i) := by
  unfold numC
  cases i with
  | ofNat n =>
    rw [if_neg (by simp)]
    exact num_S n
  | negSucc n =>
    rw [if_pos (Int.negSucc_lt_zero n)]
    have e : (Int.negSucc n).natAbs = n + 1 := rfl
    rw [e]
    have e2 := num_S (n + 1)
    refine TL.ext_tl ?_
    have e3 : TL.tl (Str.ofString (toString ((n + 1 : Nat) : Int))) = TL.numL (n + 1) := TL.tl_num (n + 1)
    show (Str.ofString (toString (Int.negSucc n))).cps.toList = 45 :: TL.numL (n + 1)
    rw [← e3]
    have e4 : toString (Int.negSucc n) = "-" ++ toString ((n + 1 : Nat) : Int) := by
      show Int.repr (Int.negSucc n) = "-" ++ Int.repr (Int.ofNat (n + 1))
      simp [Int.repr]
    rw [e4, Str.ofString_eq_toList, Str.ofString_eq_toList]
    show List.map Char.toNat ("-" ++ toString ((n + 1 : Nat) : Int)).toList = 45 :: List.map Char.toNat (toString ((n + 1 : Nat) : Int)).toList
    rw [String.toList_append]
    rfl
theorem linesC_append : ∀ (xs ys : List PyData), linesC (xs ++ ys) = linesC xs ++ linesC ys
  | [], ys => by rw [List.nil_append, linesC, List.nil_append]
  | x :: xs, ys => by rw [List.cons_append, linesC, linesC, linesC_append xs ys, List.append_assoc]
theorem linesC_flat : ∀ ds : List PyData, linesC ds = (ds.map lineC).flatten
  | [] => by rw [linesC]; rfl
  | d :: ds => by rw [linesC, linesC_flat ds]; rfl
theorem lines_len {ok : Nat → Bool} {n : Nat} : ∀ ds : List PyData, (∀ d ∈ ds, pkN ok n d = true) → ds.length ≤ (linesC ds).length
  | [], _ => Nat.zero_le _
  | d :: ds, h => by
    have ih := lines_len ds fun x hx => h x (by simp [hx])
    obtain ⟨c, q, e1, _⟩ := lineC_pos (h d (by simp))
    rw [linesC, e1]
    simp only [List.length_cons, List.length_append]
    omega
theorem line_mem {ds : List PyData} {d : PyData} (h : d ∈ ds) : (lineC d).length ≤ (linesC ds).length := by
  induction ds with
  | nil => cases h
  | cons x xs ih =>
    rw [linesC, List.length_append]
    rcases List.mem_cons.mp h with rfl | h
    · omega
    · have := ih h
      omega
end PK
namespace PK
open PySem PySem.Spec PyProof.Rows L2 DL SX
def TS : Str := " !\"#$&'()*+,-./0123456789:;<=>?@ABCDEFGHIJKLMNOPQRSTUVWXYZ[\\]^_`abcdefghijklmnopqrstuvwxyz{|}~"
def inTS (c : Nat) : Bool := decide (c ∈ TS.cps.toList)
theorem ts_small : ∀ c ∈ TS.cps.toList, 32 ≤ c ∧ c < 127 := by decide +kernel
theorem inTS_lt {c : Nat} (h : inTS c = true) : 32 ≤ c ∧ c < 127 := ts_small c (by simpa [inTS] using h)
theorem l35 : ("#" : Str) = S [35] := by decide +kernel
theorem l59 : (";" : Str) = S [59] := by decide +kernel
theorem l39 : ("'" : Str) = S [39] := by decide +kernel
theorem l58 : (":" : Str) = S [58] := by decide +kernel
theorem l40 : ("(" : Str) = S [40] := by decide +kernel
theorem l41 : (")" : Str) = S [41] := by decide +kernel
theorem l126 : ("~" : Str) = S [126] := by decide +kernel
theorem l0 : ("" : Str) = S [] := by decide +kernel
theorem l45 : ("-" : Str) = S [45] := by decide +kernel
theorem l48 : ("0" : Str) = S [48] := by decide +kernel
theorem l4548 : ("-0" : Str) = S [45, 48] := by decide +kernel
theorem str_S (z : Str) : PyData.str z = sd z.cps.toList := congrArg PyData.str (S_tl z).symm
theorem log_int {i : Int} (h : i.natAbs ≤ 1000000000000000000) : i.natAbs.log2 < 1920 := by
  by_cases h0 : i.natAbs = 0
  · rw [h0]; decide
  · have := (Nat.log2_lt h0 (k := 64)).mpr (Nat.lt_of_le_of_lt h (by decide))
    omega
section
variable {X : Cx} {O : Own} {P : W → Own → Prop}
theorem b_addC {a b : List Nat} (hl : a.length + b.length ≤ 10000000) (h : P (.d (sd (a ++ b))) O) : BinD X (binaryOp .Add) (.d (sd a)) (.d (sd b)) O P :=
  b_addS (by rw [S_len, S_len, sizeLine_eq]; omega) (by rw [S_cat]; exact h)
theorem c_strC {i : Int} (hi : i.natAbs ≤ 1000000000000000000) (h : P (.d (sd (numC i))) O) : CallD X (.type "str") [.d (.int i)] O P :=
  c_strI (log_int hi) (by
    have e : (↑(toString i) : Str) = S (numC i) := str_int i
    rw [e]
    exact h)
theorem numC_nat (n : Nat) : numC (n : Int) = TL.numL n := by
  unfold numC
  rw [if_neg (by omega)]
  rfl
theorem m_joinC {x : List Nat} {ys : List (List Nat)} {w : W} (r : RdL w O (ys.map sd)) (hz : (ys.map (·.length)).sum + ys.length * x.length ≤ 16777216) (h : P (.d (sd (TL.joinL x ys))) O) : MetD X "str" "str.join" (.d (sd x)) [w] O P :=
  m_join (ys := ys.map S) (by rw [List.map_map]; exact r) (by rw [lens, List.length_map, S_len]; exact hz) (by rw [join_S]; exact h)
end
theorem joinL_nil (ys : List (List Nat)) : TL.joinL [] ys = ys.flatten := by
  induction ys with
  | nil => rfl
  | cons p r ih =>
    cases r with
    | nil => simp [TL.joinL]
    | cons q r => rw [TL.joinL, ih]; rfl
theorem sum_flat (ys : List (List Nat)) : (ys.map (·.length)).sum = ys.flatten.length := by rw [List.length_flatten]
/-- a def that calls itself -/
structure SelfAt (K : PySem.W.Frag) (mg : Str → Option Value) (x : Str) (f : Addr) (fd : FuncData) (ps : List Str) : Prop where
  name : mg x = some (.ref f)
  keep : PySem.W.keepIn K (.ref f) = true
  binds : Binds K fd ps []
theorem SelfAt.def {P : Program} {w : World} {K : PySem.W.Frag} {mg : Str → Option Value} {base : Heap} {k n : Nat} {x : Str} {f : Addr} {fd : FuncData} {ps : List Str} {pre : Pre} (M : SelfAt K mg x f fd ps) (F : FnOk P w K mg base CX0 k f fd ps (spD K n pre)) : Def P w K mg base k x n pre := ⟨f, fd, ps, F, M.name, M.keep, M.binds⟩
end PK
namespace PK
open PySem PySem.Spec PyProof.Rows L2 DL SX
/-! ### reading -/
theorem numC_strip (i : Int) : (if (numC i).head? = some 45 then (numC i).tail else numC i) = TL.numL i.natAbs := by
  have f : ∀ n, (45 : Nat) ∉ TL.numL n := fun n => TL.numL_free (.inl (by decide))
  unfold numC
  by_cases h : i < 0
  · rw [if_pos h]
    rfl
  · rw [if_neg h, if_neg]
    intro q
    exact f _ (List.mem_of_head? q)
theorem numL_zero : TL.numL 0 = [48] := TL.numL_lt (by decide)
theorem numL_head : ∀ n : Nat, n ≠ 0 → (TL.numL n).head? ≠ some 48 := by
  intro n
  induction n using Nat.strongRecOn with
  | _ n ih =>
    intro h
    by_cases h10 : n < 10
    · rw [TL.numL_lt h10]
      simp
      omega
    · rw [TL.numL_step (by omega), List.head?_append]
      have := ih (n / 10) (by omega) (by omega)
      cases e : (TL.numL (n / 10)).head? with
      | none => exact absurd (List.head?_eq_none_iff.mp e) (TL.numL_ne _)
      | some c => rw [e] at this; simpa using this
theorem numC_minus0 (i : Int) : S (numC i) ≠ ("-0" : Str) := by
  rw [l4548]
  intro q
  have e := S_inj q
  unfold numC at e
  split at e
  · have e2 := (List.cons.inj e).2
    rw [← numL_zero] at e2
    have := TL.numL_inj e2
    omega
  · have f : (45 : Nat) ∉ TL.numL i.natAbs := TL.numL_free (.inl (by decide))
    rw [e] at f
    simp at f
theorem numL_isdigit (n : Nat) : Txt.isdigit (S (TL.numL n)) = true := by
  rw [isdigit_S fun c hc => by have := numL_signs hc; omega]
  have h : (TL.numL n).isEmpty = false := by
    cases e : TL.numL n with
    | nil => exact absurd e (TL.numL_ne n)
    | cons a r => rfl
  rw [h, Bool.not_false, Bool.true_and, List.all_eq_true]
  intro c hc
  have := numL_signs hc
  simp [this]
theorem numL_len19 {n : Nat} (h : n ≤ 1000000000000000000) : (TL.numL n).length ≤ 19 := TL.numL_len (by decide) (Nat.lt_of_le_of_lt h (by decide))
theorem numL_val {n : Nat} (h : n ≤ 1000000000000000000) : intText? (S (TL.numL n)) = some (n : Int) := by
  have := numC_val (i := (n : Int)) (by omega)
  rw [numC_nat] at this
  exact this
theorem mid_of (pre mid post : List Nat) {i j : Int} (hi : i = pre.length) (hj : j = pre.length + mid.length) : ((pre ++ (mid ++ post)).take j.toNat).drop i.toNat = mid := by
  have e1 : j.toNat = pre.length + mid.length := by omega
  have e2 : i.toNat = pre.length := by omega
  rw [e1, e2, List.drop_take, List.drop_left, show pre.length + mid.length - pre.length = mid.length by omega, List.take_left]
theorem one_of (pre : List Nat) (c : Nat) (post : List Nat) {i j : Int} (hi : i = pre.length) (hj : j = pre.length + 1) : ((pre ++ (c :: post)).take j.toNat).drop i.toNat = [c] := mid_of pre [c] post hi hj
/-- signs by their codes -/
def kfS : PyData → Key
  | .str s => .inl ((s.cps.getD 0 0 : Nat) : Int)
  | _ => .inl 0
theorem dict_signs (cs : List Nat) (c : Nat) : ∀ acc : List (Key × PyData), valD ((cs.map fun c => sd [c]).foldl (fun acc d => if (fun _ => true) d = true then putD acc (kfS d) d else acc) acc) (.inl (c : Int)) = if c ∈ cs then some (sd [c]) else valD acc (.inl (c : Int)) := by
  induction cs with
  | nil => intro acc; rfl
  | cons a r ih =>
    intro acc
    rw [List.map_cons, List.foldl_cons, ih, if_pos rfl, valD_put]
    have e : kfS (sd [a]) = .inl (a : Int) := rfl
    rw [e]
    by_cases h : c ∈ r
    · rw [if_pos h, if_pos (List.mem_cons_of_mem _ h)]
    · rw [if_neg h]
      by_cases h2 : c = a
      · subst h2
        rw [if_pos rfl, if_pos List.mem_cons_self]
      · rw [if_neg (fun q => h2 (by cases q; rfl)), if_neg (fun q => (List.mem_cons.mp q).elim h2 h)]
def intS : PyData → PyData
  | .int i => sd [i.toNat]
  | _ => .none
end PK
namespace PK
theorem flat_one : ∀ l : List Nat, (l.map fun c => [c]).flatten = l
  | [] => rfl
  | a :: r => by rw [List.map_cons, List.flatten_cons, flat_one r]; rfl
end PK
namespace PK
open PySem PySem.Spec PyProof.Rows L2 DL SX
/-! ### packable data are data -/
theorem ts_ok {z : Str} (h : z.cps.toList.all inTS = true) : PyData.strOk z = true := by
  simp only [PyData.strOk]
  rw [← Array.all_toList, List.all_eq_true]
  intro c hc
  have := inTS_lt (List.all_eq_true.mp h c hc)
  exact decide_eq_true (by omega)
theorem pk_lay : ∀ {n : Nat} {d : PyData}, pkN inTS n d = true → d.canLay0 = true ∧ d.depth ≤ n ∧ nbD d = true
  | _, .none, _ => ⟨rfl, Nat.zero_le _, rfl⟩
  | _, .int _, _ => ⟨rfl, Nat.zero_le _, rfl⟩
  | n, .str z, h => ⟨ts_ok (pkN_str h), Nat.zero_le _, rfl⟩
  | 0, .tuple _, h => by simp [pkN] at h
  | n + 1, .tuple ds, h => by
    simp only [pkN, List.all_eq_true] at h
    have ih : ∀ d ∈ ds, d.canLay0 = true ∧ d.depth ≤ n ∧ nbD d = true := fun d hd => pk_lay (h d hd)
    refine ⟨?_, ?_, ?_⟩
    · simp only [PyData.canLay0]
      have := canLayAll_map (f := id) ds fun d hd => (ih d hd).1
      simpa using this
    · simp only [PyData.depth]
      have := depthAll_map (f := id) (n := n) ds fun d hd => (ih d hd).2.1
      simpa using this
    · simp only [nbD]
      have := nbAll_map (f := id) ds fun d hd => (ih d hd).2.2
      simpa using this
  | _, .bool _, h => (pkN_bool h).elim
  | _, .list _, h => (pkN_list h).elim
  | _, .dict _, h => (pkN_dict h).elim
theorem pk_shaped {n : Nat} {d : PyData} (h : pkN inTS n d = true) (hn : n ≤ 60) : SeqAt.shaped d = true := by
  obtain ⟨a, b, _⟩ := pk_lay h
  exact shaped_mk a (by omega)
theorem pk_eqv {n n' : Nat} {d e : PyData} (h : pkN inTS n d = true) (h' : pkN inTS n' e = true) : PyData.eqv d e = true ↔ d = e := eqv_iff (pk_lay h).2.2 (pk_lay h').2.2 (pk_lay h).1
abbrev octD (l : List Nat) : PyData := .list (l.map fun (c : Nat) => .int c)
theorem oct_shaped (l : List Nat) : SeqAt.shaped (octD l) = true := by
  refine shaped_mk ?_ ?_
  · simp only [octD, PyData.canLay0]
    exact canLayAll_map l fun v _ => rfl
  · simp only [octD, PyData.depth]
    exact Nat.le_trans (Nat.succ_le_succ (depthAll_map (n := 0) l fun v _ => Nat.le_refl _)) (by decide)
theorem oct_nb (l : List Nat) : nbD (octD l) = true := by
  simp only [octD, nbD]
  exact nbAll_map l fun _ _ => rfl
theorem oct_inj {a b : List Nat} (h : octD a = octD b) : a = b := by
  have h2 : (a.map fun (c : Nat) => PyData.int c) = b.map fun (c : Nat) => PyData.int c := PyData.list.inj h
  refine (List.map_inj_right ?_).mp h2
  intro x y e
  have := PyData.int.inj e
  omega
theorem oct_eqv (a b : List Nat) : PyData.eqv (octD a) (octD b) = decide (a = b) := by
  rw [Bool.eq_iff_iff, decide_eq_true_iff]
  have hl : (octD a).canLay0 = true := by
    simp only [octD, PyData.canLay0]
    exact canLayAll_map a fun v _ => rfl
  rw [eqv_iff (oct_nb a) (oct_nb b) hl]
  exact ⟨oct_inj, fun h => by rw [h]⟩
theorem pk_pre {n n' : Nat} {d e : PyData} (h : pkN inTS n d = true) (h' : pkN inTS n' e = true) {k : Nat} (q : (lineC d).take k = lineC e) : d = e := by
  have e1 : lineC d ++ [] = lineC e ++ (lineC d).drop k := by
    rw [List.append_nil, ← q, List.take_append_drop]
  exact (line_inj d e h h' e1).1
theorem pk_same {n n' : Nat} {d e : PyData} (h : pkN inTS n d = true) (h' : pkN inTS n' e = true) (q : lineC d = lineC e) : d = e := pk_pre h h' (k := (lineC d).length) (by rw [List.take_length]; exact q)
theorem pk_flat {n : Nat} {d : PyData} (h : pkN inTS n d = true) (h2 : isTupD d = false) : pkN inTS 0 d = true := by
  cases d with
  | tuple ds => cases h2
  | none => simp [pkN]
  | int i => simpa [pkN] using pkN_int h
  | str z => simpa [pkN] using pkN_str h
  | bool k => exact (pkN_bool h).elim
  | list k => exact (pkN_list h).elim
  | dict k => exact (pkN_dict h).elim
def LL : Nat → Nat
  | 0 => 22
  | e + 1 => 2 + 4 * LL e
theorem lines_le {m : Nat} : ∀ {ds : List PyData}, (∀ d ∈ ds, (lineC d).length ≤ m) → (linesC ds).length ≤ ds.length * m
  | [], _ => by rw [linesC]; simp
  | d :: ds, h => by
    rw [linesC, List.length_append, List.length_cons, Nat.succ_mul]
    have := lines_le (ds := ds) fun x hx => h x (by simp [hx])
    have := h d (by simp)
    omega
end PK

set_option Elab.async false
set_option linter.all false
set_option maxRecDepth 100000
set_option maxHeartbeats 4000000
namespace L2
open PySem PySem.Spec PyProof.Rows
theorem op_repStr {X : Cx} : OpR X (binaryOp .Mult) (fun x y H Q => ∃ (z : Str) (k : Int), x = .str z ∧ y = .int k ∧ 0 ≤ k ∧ k ≤ 1000 ∧ 1 ≤ z.length ∧ z.length ≤ 1000 ∧ Q (.str ⟨(List.replicate k.toNat z.cps.toList).flatten.toArray⟩) H) := by
  intro pins s σ H x y v u Q I rx ry h
  obtain ⟨z, k, rfl, rfl, h0, h1, hz0, hz, q⟩ := h
  obtain ⟨t, rfl⟩ := rx
  obtain ⟨t2, rfl⟩ := ry
  have e1 : ∀ m : Nat, (List.replicate m z.cps).foldl (· ++ ·) #[] = (List.replicate m z.cps.toList).flatten.toArray := fun m => by
    have : ∀ (m : Nat) (a : List Nat), (List.replicate m z.cps).foldl (· ++ ·) a.toArray = (a ++ (List.replicate m z.cps.toList).flatten).toArray := by
      intro m
      induction m with
      | zero => intro a; simp
      | succ m ih =>
        intro a
        rw [List.replicate_succ, List.foldl_cons, List.replicate_succ, List.flatten_cons, ← List.append_assoc, ← ih]
        congr 1
        apply Array.ext'
        simp
    have := this m []
    rw [List.nil_append] at this
    exact this
  have hk : (k.toNat : Int) = k := by omega
  refine P.mul_str (by rw [decide_eq_false (by omega), decide_eq_false (by omega)]; rfl) (fun h2 _ => ?_) (fun h2 _ => ?_) ?_
  · have hm : ((z.length : Nat) : Int) * k ≤ 1000 * 1000 := Int.mul_le_mul (by omega) h1 h0 (by omega)
    have := Int.le_ediv_of_mul_le (c := k) (by omega) (a := ((z.length : Nat) : Int)) (b := 2 ^ 63 - 1) (by omega)
    omega
  · have hm : z.length * k.toNat ≤ 1000 * 1000 := Nat.mul_le_mul hz (by omega)
    exact decide_eq_false (by rw [sizeLine_eq]; omega)
  · by_cases hk1 : k < 1
    · rw [if_pos hk1]
      have : k = 0 := by omega
      subst this
      exact ⟨by decide, .str _, H, I.tok _, ⟨_, rfl⟩, q⟩
    · rw [if_neg hk1]
      by_cases hk2 : k = 1
      · subst hk2
        rw [if_pos (by simp)]
        refine ⟨.str z, H, I, ⟨_, rfl⟩, ?_⟩
        have e2 : (⟨(List.replicate (1 : Int).toNat z.cps.toList).flatten.toArray⟩ : Str) = z := by simp
        rw [e2] at q
        exact q
      · rw [if_neg (by simp; omega), e1]
        have hm : (List.replicate k.toNat z.cps.toList).flatten.length ≤ 1000 * 1000 := by
          have := PyProof.Rows.lm_len_rep_flat z.cps.toList k.toNat
          rw [this]
          exact Nat.mul_le_mul (by omega) hz
        refine ⟨?_, .str _, H, I.tok _, ⟨_, rfl⟩, q⟩
        show (List.replicate k.toNat z.cps.toList).flatten.toArray.size ≤ sizeLine
        rw [List.size_toArray, sizeLine_eq]
        omega
theorem tuple_mul1 (l : Addr) (items : Array Value) (n : Nat) (dd : Option Addr) (sl : Array (Option Value)) (u : Tok) :
    Meets (Builtin.«tuple.__mul__» ⟨[.ref l, .int 1 u], []⟩) (fun _ R s => s.heap.get? l = some { cls := .type "tuple", dict := dd, data := .seq items n, slots := sl } ∧ R (.ok (.ret (Value.ref l))) s) :=
  .of_wp fun prog w A R s h => by
    obtain ⟨hp, g, d, tk, os⟩ := s
    obtain ⟨hl, h⟩ := h
    have f1 := AutoSeq1.idx_int
    wp_walk using wpAny_loadPart' hl
    exact ⟨_, rfl, h⟩
theorem tuple_mul0 (l : Addr) (items : Array Value) (n : Nat) (dd : Option Addr) (sl : Array (Option Value)) (u : Tok) (hi : items.isEmpty = false) :
    Meets (Builtin.«tuple.__mul__» ⟨[.ref l, .int 0 u], []⟩) (fun _ R s => s.heap.get? l = some { cls := .type "tuple", dict := dd, data := .seq items n, slots := sl } ∧ R (.ok (.ret (Value.ref s.heap.objs.size))) { s with heap := s.heap.push { cls := .type "tuple", data := .seq #[] } }) :=
  .of_wp fun prog w A R s h => by
    obtain ⟨hp, g, d, tk, os⟩ := s
    obtain ⟨hl, h⟩ := h
    have f1 := AutoSeq1.idx_int
    wp_walk using wpAny_loadPart' hl
    repeat (first
      | (refine wpAny_ite_false (decide_eq_false (by rw [hi]; decide)) ?_; wp_walk using wpAny_loadPart' hl)
      | (refine wpAny_ite_true (decide_eq_true (by rw [hi]; decide)) ?_; wp_walk using wpAny_loadPart' hl))
    exact ⟨_, rfl, h⟩
def rRep01 (K : PySem.W.Frag) : R2 := fun x y H Q => ∃ l k xs, x = .ref l ∧ y = .int k ∧ SqT K H l xs ∧ xs ≠ [] ∧ (k = 0 ∨ k = 1) ∧ (k = 0 → ∀ p, H p = none → Q (.ref p) (upd H p (.tup []))) ∧ (k = 1 → Q (.ref l) H)
theorem op_rep01 {X : Cx} : OpR X (binaryOp .Mult) (rRep01 X.K) := by
  intro pins s σ H x y v u Q I rx ry h
  obtain ⟨l, k, xs, rfl, rfl, hT, hne, hk, q0, q1⟩ := h
  cases rx
  obtain ⟨t, rfl⟩ := ry
  obtain ⟨its, r, ⟨⟨cls, dd, data, sl⟩, ho, hc, n, hd⟩, hs⟩ := I.tuple hT
  simp only at hc hd
  subst hc hd
  have hle : its.length = xs.length := r.length.symm
  have hi : its.toArray.isEmpty = false := by
    cases its with
    | nil => exact absurd (List.eq_nil_of_length_eq_zero hle.symm) hne
    | cons a b => rfl
  rcases hk with rfl | rfl
  · refine wpAny_binaryOp_repeat_ref (T := "tuple") (U := "int") (by decide) ⟨_, ho, rfl⟩ (fun s' => typeIs_int s' 0 t) noFill_tuple_mul F.fills_int_mul F.slot_int_rmul repeat_tuple F.slot_int_index.lookup
      (call_meets F.slot_int_rmul (typeIs_int s 0 t) F.entry_int_rmul (F.args_int_rmul_2 _ _) (int_rmul_tuple 0 t l its.toArray n dd sl) ⟨ho, rfl, ⟨_, ho, rfl⟩, call_meets F.slot_tuple_mul ⟨_, ho, rfl⟩ F.entry_tuple_mul (F.args_tuple_mul_2 _ _) (tuple_mul0 l its.toArray n dd sl t hi) ⟨ho, ?_⟩⟩)
    exact ⟨.ref s.heap.objs.size, _, I.laid (t' := s.toks) (o := .tup []) (fun b ob q => Heap.get?_push_of_some _ q) (Nat.le_refl _) ⟨by rw [sizeLine_eq]; exact (by decide : 0 ≤ 16777216), [], .nil, IsTup.new _ _⟩, rfl, q0 rfl _ (I.hok.fresh (Nat.le_refl _))⟩
  · refine wpAny_binaryOp_repeat_ref (T := "tuple") (U := "int") (by decide) ⟨_, ho, rfl⟩ (fun s' => typeIs_int s' 1 t) noFill_tuple_mul F.fills_int_mul F.slot_int_rmul repeat_tuple F.slot_int_index.lookup
      (call_meets F.slot_int_rmul (typeIs_int s 1 t) F.entry_int_rmul (F.args_int_rmul_2 _ _) (int_rmul_tuple 1 t l its.toArray n dd sl) ⟨ho, rfl, ⟨_, ho, rfl⟩, call_meets F.slot_tuple_mul ⟨_, ho, rfl⟩ F.entry_tuple_mul (F.args_tuple_mul_2 _ _) (tuple_mul1 l its.toArray n dd sl t) ⟨ho, ?_⟩⟩)
    exact ⟨.ref l, H, I, rfl, q1 rfl⟩
end L2
namespace DL
open PySem PySem.Spec PyProof.Rows L2 PK SX
section
variable {X : Cx} {τ : Tau} {O : Own} {P : W → Own → Prop}
theorem b_repC {c : List Nat} {k : Int} (h0 : 0 ≤ k) (h1 : k ≤ 1000) (hc0 : 1 ≤ c.length) (hc : c.length ≤ 1000) (h : P (.d (sd (List.replicate k.toNat c).flatten)) O) : BinD X (binaryOp .Mult) (.d (sd c)) (.d (.int k)) O P :=
  bind_of op_repStr fun v1 v2 Hr H Q hS k1 k2 hQ => by
    cases k1
    cases k2
    exact ⟨S c, k, rfl, rfl, h0, h1, by rw [S_len]; exact hc0, by rw [S_len]; exact hc, hQ _ _ (po_here h hS (.str _))⟩
theorem b_rep01 {ds : List PyData} {k : Int} (hne : ds ≠ []) (hk : k = 0 ∨ k = 1) (h : P (.d (.tuple (List.replicate k.toNat ds).flatten)) O) : BinD X (binaryOp .Mult) (.d (.tuple ds)) (.d (.int k)) O P :=
  bind_of op_rep01 fun v1 v2 Hr H Q hS k1 k2 hQ => by
    cases k2
    cases k1 with
    | tup e1 a1 =>
      refine ⟨_, _, _, rfl, rfl, same_t hS.ex e1, fun q => hne (a1.nil_iff.mp q), hk, fun e p hp => ?_, fun e => ?_⟩
      · subst e
        exact hQ _ _ (po_new h hS hp (.tup (SqT.of upd_same) .nil))
      · subst e
        have e2 : (List.replicate (1 : Int).toNat ds).flatten = ds := by simp
        rw [e2] at h
        exact hQ _ _ (po_here h hS (.tup e1 a1))
theorem sl_sdR {l : List Nat} {lo hi : Option Int} (hz : l.length ≤ 10000000) (h : P (.d (sd (cutL l lo hi))) O) : SlD X (.d (sd l)) lo hi O P :=
  sl_s (by rw [S_len, sizeLine_eq]; omega) (by
    have e : cutS (S l) lo hi = S (cutL l lo hi) := by
      unfold cutS cutL
      rw [show (S l).cps.toList = l by simp [S], show (S l).length = l.length from S_len _]
    rw [e]; exact h)
end
end DL

set_option Elab.async false
set_option linter.all false
set_option maxRecDepth 100000
set_option maxHeartbeats 2000000
/-! sets of ints and texts that can be gone through: the keys in a list, each once -/
namespace SM
open PySem PySem.Spec PyProof.Rows L2 DL PpSet
/-- the key of a value -/
def keyV : Value → Key
  | .int i _ => .inl i
  | .str x _ => .inr x
  | _ => .inl 0
theorem keyV_of {k : Key} {u : Value} (r : RelV (kV k) u) : keyV u = k := by
  cases k with
  | inl i => obtain ⟨t, rfl⟩ := r; rfl
  | inr x => obtain ⟨t, rfl⟩ := r; rfl
/-- an entry of such a set -/
def EntM (P : Program) (w : World) (e : Int × Value) : Prop := RelV (kV (keyV e.2)) e.2 ∧ e.1 = (mixKind P w).hash (keyV e.2)
theorem entM_of {P : Program} {w : World} {k : Key} {u : Value} (r : RelV (kV k) u) : EntM P w ((mixKind P w).hash k, u) := by
  have e := keyV_of r
  exact ⟨by rw [e]; exact r, by rw [e]⟩
def SetM (P : Program) (w : World) (h : Heap) (a : Addr) (ks : List Key) : Prop :=
  ∃ o es ep t, h.get? a = some o ∧ o.ExactSet ∧ o.data = .set es ep t ∧ ((∀ e ∈ es.toList, EntM P w e) ∧ (es.toList.map fun e => keyV e.2).Perm ks ∧ ks.Nodup) ∧ (es.size < scanBound ∧ t.fits es.size = true ∧ Ris t.place.toList ∧ (w.params.followText "set-order" = true ∨ t.led = true))
section
variable {P : Program} {w : World} {h h' : Heap} {a : Addr} {ks : List Key}
theorem SetM.at (R : SetM P w h a ks) (k : ∀ o, h.get? a = some o → h'.get? a = some o) : SetM P w h' a ks := by
  obtain ⟨o, es, ep, t, ho, r⟩ := R
  exact ⟨o, es, ep, t, k o ho, r⟩
theorem elems {l : List (Int × Value)} (g : ∀ e ∈ l, EntM P w e) : ElemsOf (mixKind P w) l := fun e he => ⟨⟨keyV e.2, kV_is (g e he).1, (g e he).2⟩, key_scan (g e he).1⟩
theorem is_iff {e : Int × Value} (g : EntM P w e) (k : Key) : (mixKind P w).is k e.2 = true ↔ keyV e.2 = k :=
  ⟨fun q => (mixKind P w).inj _ _ _ (kV_is g.1) q, fun q => by rw [← q]; exact kV_is g.1⟩
/-- a key put to others -/
def addK (ks : List Key) (k : Key) : List Key := if (ks.any fun j => decide (j = k)) = true then ks else ks ++ [k]
theorem addK_in {ks : List Key} {k : Key} (h : k ∈ ks) : addK ks k = ks := by
  unfold addK
  rw [if_pos (List.any_eq_true.mpr ⟨k, h, decide_eq_true rfl⟩)]
theorem addK_out {ks : List Key} {k : Key} (h : k ∉ ks) : addK ks k = ks ++ [k] := by
  unfold addK
  rw [if_neg]
  intro q
  obtain ⟨j, hj, e⟩ := List.any_eq_true.mp q
  exact h (of_decide_eq_true e ▸ hj)
end
section
variable {P : Program} {w : World} {A : Around} {E : Value → Shared → Prop} {s : Shared} {a : Addr} {ks : List Key}
theorem grown {g : Bool → Sem Unit} (hg : ∀ (b : Bool) (s₁ : Shared) (Q' : Unit → Shared → Prop), Q' () s₁ → wpAny (model P w) A (g b) Q' E s₁) {o : Obj} {es es1 : Array (Int × Value)} {ep : Nat} {t t2 : SetTable} {ks1 : List Key}
    (ho : s.heap.get? a = some o) (hex : o.ExactSet) (hd : o.data = .set es ep t) (m : (∀ e ∈ es1.toList, EntM P w e) ∧ (es1.toList.map fun e => keyV e.2).Perm ks1 ∧ ks1.Nodup) (hb : es1.size < scanBound) (hf : t2.fits es1.size = true) (hr : Ris t2.place.toList) (hl : w.params.followText "set-order" = true ∨ t2.led = true)
    {dummy : Bool} {R : Option Bool → Shared → Prop} (hR : ∀ h', Heap.SameBut a s.heap h' → SetM P w h' a ks1 → R (some true) { s with heap := h' }) :
    wpAny (model P w) A (do
        storeSet a es1 t2
        if (!dummy && t2.tooFull) = true then do
            g (relayAll t2 es1 (SetTable.grown es1.size)).2.2
            storeSet a (relayAll t2 es1 (SetTable.grown es1.size)).1 (relayAll t2 es1 (SetTable.grown es1.size)).2.1
            pure (some true)
          else pure (some true)) R E s := by
  obtain ⟨m1, m2, m3⟩ := m
  have w1 := Heap.SameBut.update s.heap a (Obj.putSet es1 t2)
  have o1 := storeB_at (es' := es1) (t' := t2) ho hd
  refine wpAny_bind (wpAny_storeSet_of ho hd ?_ (fits_of_scanBound hb))
  by_cases q : (!dummy && t2.tooFull) = true
  · rw [if_pos q]
    have p0 := relayAll_perm t2 es1 (SetTable.grown es1.size)
    have p1 := relayAll_fits t2 es1 (SetTable.grown es1.size)
    have p2 := relayAll_ris t2 es1 (SetTable.grown es1.size)
    have p3 := relayAll_led t2 es1 (SetTable.grown es1.size)
    generalize relayAll t2 es1 (SetTable.grown es1.size) = Z at p0 p1 p2 p3 ⊢
    obtain ⟨es2, t3, gave⟩ := Z
    have hs : es2.size = es1.size := by rw [← Array.length_toList, p0.length_eq, Array.length_toList]
    refine wpAny_bind (hg _ _ _ (wpAny_bind (wpAny_storeSet_of o1 rfl ?_ (fits_of_scanBound (by show es2.size < scanBound; rw [hs]; exact hb)))))
    refine wpAny_pure (hR _ (w1.trans (Heap.SameBut.update _ a _)) ⟨_, es2, _, t3, storeB_at (es' := es2) (t' := t3) o1 rfl, hex, rfl, ⟨fun e he => m1 e (p0.mem_iff.mp he), (p0.map fun e => keyV e.2).trans m2, m3⟩, by rw [hs]; exact hb, p1, p2, ?_⟩)
    rcases hl with z | z
    · exact .inl z
    · exact .inr (p3.trans z)
  · rw [if_neg q]
    exact wpAny_pure (hR _ w1 ⟨_, es1, _, t2, o1, hex, rfl, ⟨m1, m2, m3⟩, hb, hf, hr, hl⟩)
theorem add_hashed {k : Key} {u : Value} {Q : Bool → Shared → Prop} (r : RelV (kV k) u) (R : SetM P w s.heap a ks) (room : ks.length + 1 < scanBound) (hQ : ∀ h' b, Heap.SameBut a s.heap h' → SetM P w h' a (addK ks k) → Q b { s with heap := h' }) :
    wpAny (model P w) A (setAddHashed a u ((mixKind P w).hash k)) Q E s := by
  obtain ⟨o, es, ep, t, ho, hex, hd, ⟨m1, m2, m3⟩, hb, hf, hr, hl⟩ := R
  have hk : (mixKind P w).is k u = true := kV_is r
  have hc := key_scan r
  have hn : es.size = ks.length := by rw [← m2.length_eq, List.length_map, Array.length_toList]
  unfold setAddHashed setAddHashedIn
  refine wpAny_holding (wpAny_bind (wpAny_setState_of ho hd hf ?_))
  dsimp only
  rw [byScan_of hc hb (elems m1)]
  simp only [↓reduceIte]
  unfold setAddByScan
  refine wpAny_bind (wpAny_bind (wpAny_rule (wpAny_bind (wpAny_setScan_of hk ho hd hf (elems m1) ?_))))
  cases hfi : List.findIdx? (fun e => (mixKind P w).is k e.2) es.toList with
  | some j =>
    obtain ⟨hj, pj, _⟩ := List.findIdx?_eq_some_iff_getElem.mp hfi
    have hin : k ∈ ks := by
      rw [← m2.mem_iff, List.mem_map]
      exact ⟨_, List.getElem_mem hj, (is_iff (m1 _ (List.getElem_mem hj)) k).mp pj⟩
    refine wpAny_pure (wpAny_pure ?_)
    have e : addK ks k = ks := addK_in hin
    exact hQ s.heap _ (Heap.SameBut.refl a s.heap) (by rw [e]; exact ⟨o, es, ep, t, ho, hex, hd, ⟨m1, m2, m3⟩, hb, hf, hr, hl⟩)
  | none =>
    have hnin : k ∉ ks := fun z => by
      rw [← m2.mem_iff, List.mem_map] at z
      obtain ⟨e, he, q⟩ := z
      have c := List.findIdx?_eq_none_iff.mp hfi e he
      rw [(is_iff (m1 e he) k).mpr q] at c
      cases c
    have p0 := layNew_perm t es ((mixKind P w).hash k) u
    have p1 := layNew_fits t es ((mixKind P w).hash k) u
    have p2 := layNew_ris t es ((mixKind P w).hash k) u hr
    have p3 := layNew_led t es ((mixKind P w).hash k) u
    generalize layNew t es ((mixKind P w).hash k) u = Z at p0 p1 p2 p3 ⊢
    obtain ⟨es1, t1, dummy, gave⟩ := Z
    dsimp only at p0 p1 p2 p3 ⊢
    rw [Array.toList_push] at p0
    have hs : es1.size = ks.length + 1 := by rw [← Array.length_toList, p0.length_eq, List.length_append, Array.length_toList, hn]; rfl
    have e : addK ks k = ks ++ [k] := addK_out hnin
    have new : (∀ e ∈ es1.toList, EntM P w e) ∧ (es1.toList.map fun e => keyV e.2).Perm (addK ks k) ∧ (addK ks k).Nodup := by
      refine ⟨fun x hx => ?_, ?_, ?_⟩
      · rcases List.mem_append.mp (p0.mem_iff.mp hx) with z | z
        · exact m1 x z
        · rw [List.mem_singleton.mp z]
          exact entM_of r
      · refine (p0.map fun e => keyV e.2).trans ?_
        rw [List.map_append, e]
        refine m2.append ?_
        show [keyV u].Perm [k]
        rw [keyV_of r]
      · rw [e]
        refine List.nodup_append.mpr ⟨m3, by simp, fun x hx y hy => ?_⟩
        rw [List.mem_singleton.mp hy]
        exact fun q => hnin (q ▸ hx)
    have b1 : es1.size < scanBound := by rw [hs]; exact room
    have led : w.params.followText "set-order" = true ∨ t1.led = true := by
      rcases hl with z | z
      · exact .inl z
      · exact .inr (p3.trans z)
    have gw : ∀ (b : Bool) (s₁ : Shared) (Q' : Unit → Shared → Prop), Q' () s₁ → wpAny (model P w) A (match b with | true => rule "set.scan.the-table-gave-way" | false => pure ()) Q' E s₁ := fun b s₁ Q' q => by
      cases b
      · exact wpAny_pure q
      · exact wpAny_rule q
    refine wpAny_bind (gw _ _ _ ?_)
    split
    · refine wpAny_bind ?_
      rw [hashByValue_scannable 8 hc]
      refine wpAny_pure (grown ?_ ho hex hd new b1 ?_ ?_ ?_ fun h' sb q => ?_)
      · intro b s₁ Q' q
        cases b
        · exact wpAny_pure q
        · exact wpAny_rule q
      · split
        · first | exact p1 | exact SetTable.fits_plain_off p1
        · first | exact p1 | exact SetTable.fits_plain_off p1
      · split <;> exact p2
      · split <;> exact led
      · exact wpAny_pure (hQ h' true sb q)
    · refine wpAny_bind (wpAny_pure ?_)
      simp only [↓reduceIte]
      refine grown ?_ ho hex hd new b1 p1 p2 led fun h' sb q => wpAny_pure (hQ h' true sb q)
      intro b s₁ Q' q
      cases b
      · exact wpAny_pure q
      · exact wpAny_rule q
end
end SM

set_option Elab.async false
set_option linter.all false
set_option maxRecDepth 100000
set_option maxHeartbeats 2000000
namespace SM
open PySem PySem.Spec PyProof.Rows L2 DL PpSet
/-- the tracked set -/
def SetMO (P : Program) (w : World) (a : Addr) (ks : List Key) : HO := .ext fun h => SetM P w h a ks
theorem setMO_new {w : World} {P : Program} {H : Hp} {h : Heap} {a : Addr} {ks : List Key} (R : SetM P w h a ks) : ObjOk P w H h a (SetMO P w a ks) := by
  have ⟨o, _, _, _, ho, _⟩ := R
  exact ⟨R, ⟨o, ho⟩, fun _ _ p k => SetM.at p k⟩
theorem fresh (P : Program) (w : World) (h : Heap) : SetM P w (h.push { cls := .type "set", dict := none, data := .set #[] 0 (.fresh 0 0 (!w.params.followText "set-order")) }) h.objs.size [] := by
  refine ⟨_, #[], 0, _, Heap.get?_push_size _ rfl, ⟨rfl, rfl, rfl⟩, rfl, ⟨fun e he => ?_, by simp, by simp⟩, by decide, by rfl, List.Pairwise.nil, ?_⟩
  · simp at he
  · show _ ∨ (!w.params.followText "set-order") = true
    cases w.params.followText "set-order"
    · exact .inr rfl
    · exact .inl rfl
section
variable {X : Cx}
theorem setMO_get {pins : List (Addr × Obj)} {σ : L2.St} {H : Hp} {s : Shared} {a : Addr} {ks : List Key} (I : Inv X pins σ H s) (ha : H a = some (SetMO X.prog X.w a ks)) : SetM X.prog X.w s.heap a ks := (I.hok a _ ha).1
/-- set.add of a key -/
theorem add_ok {pins : List (Addr × Obj)} {σ : L2.St} {H : Hp} {s : Shared} {E : Value → Shared → Prop} {D : Addr} {ks : List Key} {k : Key} {u : Value} {Q : Value → Shared → Prop} (I : Inv X pins σ H s) (hD : H D = some (SetMO X.prog X.w D ks)) (r : RelV (kV k) u) (room : ks.length + 1 < scanBound)
    (h : ∀ s', Inv X pins σ (upd H D (SetMO X.prog X.w D (addK ks k))) s' → Q .none s') : wpAny (model X.prog X.w) X.A (call (.builtin "set.add") [.ref D, u]) Q E s := by
  have R := setMO_get I hD
  have ⟨o, _, _, _, ho, hex, _⟩ := R
  refine wpAny_call_entry F.slot_set_add ⟨o, ho, hex.1⟩ F.entry_set_add ?_ (F.args_set_add_2 _ _)
  unfold Builtin.«set.add» Builtin.Frozenset.oneOther
  simp only [List.isEmpty_nil, bind_assoc]
  unfold Builtin.Frozenset.addrOf setAdd
  refine wpAny_bind (wpAny_pure ?_)
  try dsimp only
  refine wpAny_bind (wpAny_pure ?_)
  try dsimp only
  refine wpAny_bind (wpAny_holding (wpAny_bind ((mixKind X.prog X.w).pyHash (kV_is r) (add_hashed (s := { s with toks := s.toks + 1 }) r R room fun h' b sb new => ?_))))
  have ⟨o', _, _, _, ho', _⟩ := new
  show wpAny _ _ (ret Value.none) _ _ _
  exact wpAny_pure ⟨_, rfl, h _ (I.write (e := D) (t' := s.toks + 1) (by rw [hD]; trivial) (.inl rfl) (fun b u hb hu => (sb.2 b hb).trans hu) ⟨o', ho'⟩ (setMO_new new))⟩
/-- what {elt for .. if ..} asks, the elements ints and texts -/
def tScM (P : Program) (w : World) (wi : TI) (g : TG) (tt : TT) (te : TE) (vs : List Nat) : TE := fun σ H Q => wi σ H fun J H1 => ∀ D, H1 D = none → ∃ W : Nat → Nat → Hp → Prop, (∃ m, W 0 m (upd H1 D (SetMO P w D []))) ∧ ∀ i m H, W i m H →
  (J.stop i H ∧ Q (.ref D) H) ∨ (J.go i H ∧ ∃ Nx : Hp → Prop, (∀ H', Nx H' → ∃ m', m' < m ∧ W (i + 1) m' H') ∧ ∀ x H', J.yld i H x H' → g x (wipe σ vs) H' fun σ2 H2 => wipe σ2 vs = wipe σ vs ∧ tt σ2 H2 fun b H3 =>
    if b = true then te σ2 H3 fun y H4 => ∃ (k : Key) (ks : List Key), y = kV k ∧ H4 D = some (SetMO P w D ks) ∧ ks.length + 1 < scanBound ∧ Nx (upd H4 D (SetMO P w D (addK ks k))) else Nx H3)
theorem pe_scM {elt tg iter : Expr} {ifs : List Expr} {scope : Scope} {own : List (PySem.Str × Nat)} {pos : Pos} {wi : TI} {g : TG} {tt : TT} {te : TE} (hc : X.calm = true) (hN : X.N.Nodup) (hi : PI X tg iter wi) (ok : BlkOk X.N X.env.scope scope own)
    (hg : ∀ (s : Shared) (H : Hp) (C : Addr) (cl : List (PySem.Str × Addr)) (fp : List Addr), PG (X.blk s H scope (compEnvC scope cl C X.env) fp) tg g) (ht : ∀ (s : Shared) (H : Hp) (C : Addr) (cl : List (PySem.Str × Addr)) (fp : List Addr), PTs (X.blk s H scope (compEnvC scope cl C X.env) fp) ifs tt)
    (he : ∀ (s : Shared) (H : Hp) (C : Addr) (cl : List (PySem.Str × Addr)) (fp : List Addr), PE (X.blk s H scope (compEnvC scope cl C X.env) fp) elt te) (hs : ∀ x, foldedSetIterable iter X.env x = pure x := by intro _; rfl) :
    PE X (.SetComp elt [⟨tg, iter, ifs, 0⟩] scope pos) (tScM X.prog X.w wi g tt te (own.map (·.2))) := by
  refine ⟨fun pins s σ H Q I h => ?_⟩
  rw [eval_SetComp]
  have hfree : ∀ y ∈ scope.names, y.2 = .free → ∃ c, X.env.cells.lookup y.1 = some c := fun y hy e => by
    rcases ok.free y hy e with k | k
    · exact I.ok.has _ (.inl k)
    · exact I.ok.has _ (.inr k)
  refine wpAny_comprehension_free (use := none) rfl hs (closure_ok hfree) ok.kind (fun y hy e => by rw [ok.uniq y hy, e])
    (thn (hi.run pins s σ H _ I h) fun xv s1 hx => thn hx fun itv s2 h2 => ?_)
  obtain ⟨it, fp, tn, J, H2, e, I2, T, st2, f2, q⟩ := h2
  subst e
  refine newSet_ok (newEnv_comp ?_)
  generalize hD : s2.heap.objs.size = D
  have hDn : H2 D = none := I2.hok.fresh (Nat.le_of_eq hD)
  obtain ⟨W, ⟨m0, w0⟩, turn⟩ := q D hDn
  generalize hs3 : ({ s2 with heap := s2.heap.push { cls := .type "set", dict := none, data := .set #[] 0 (.fresh 0 0 (!X.w.params.followText "set-order")) } } : Shared) = s3
  have h3 : s3.heap = s2.heap.push { cls := .type "set", dict := none, data := .set #[] 0 (.fresh 0 0 (!X.w.params.followText "set-order")) } := by rw [← hs3]
  have up3 : ∀ b o, s2.heap.get? b = some o → s3.heap.get? b = some o := fun b o e => by rw [h3]; exact Heap.get?_push_of_some _ e
  generalize hH3 : upd H2 D (SetMO X.prog X.w D []) = H3 at w0
  have I3 : Inv X pins σ H3 s3 := by
    rw [← hs3, ← hH3]
    refine I2.laid (t' := s2.toks) (fun b o e => Heap.get?_push_of_some _ e) (Nat.le_of_eq hD) ?_
    rw [← hD]
    exact setMO_new (fresh X.prog X.w s2.heap)
  have f3 : ∀ b ∈ fp, FpOk X pins H3 b ∧ b < s3.heap.objs.size := fun b hb => by
    obtain ⟨o, e, _⟩ := T.obj _ _ st2 b hb
    have hlt := Heap.lt_size e
    have hbd : b ≠ D := by rw [← hD]; exact Nat.ne_of_lt hlt
    refine ⟨⟨?_, (f2 b hb).2⟩, by rw [h3, Heap.size_push]; exact Nat.lt_succ_of_lt hlt⟩
    rw [← hH3, upd_ne hbd]
    exact (f2 b hb).1
  have st3 : tn 0 s3.heap := T.keep _ _ _ st2 fun b _ o e => up3 b o e
  have I4 := block_start I3 ok hN f3
  have pg := hg s3 H3 s3.heap.objs.size (cellsFrom (s3.heap.objs.size + 1) scope.names (cloFrom X.env.cells scope.names [])) fp
  have pt := ht s3 H3 s3.heap.objs.size (cellsFrom (s3.heap.objs.size + 1) scope.names (cloFrom X.env.cells scope.names [])) fp
  have pe := he s3 H3 s3.heap.objs.size (cellsFrom (s3.heap.objs.size + 1) scope.names (cloFrom X.env.cells scope.names [])) fp
  let RR := compPost (model X.prog X.w) X.A X.xe none (EP X pins σ Q) (.ref D) s3.heap.objs.size
  show codeAny _ _ (.compStart (.SetComp elt [⟨tg, iter, ifs, 0⟩] scope pos) 0 (.ref it) (.ref D) (compEnvC scope (cellsFrom (s3.heap.objs.size + 1) scope.names (cloFrom X.env.cells scope.names [])) s3.heap.objs.size X.env)) RR { s3 with heap := pushCells (s3.heap.push { cls := .type "dict", data := .dict #[] }) scope.names }
  generalize hce : compEnvC scope (cellsFrom (s3.heap.objs.size + 1) scope.names (cloFrom X.env.cells scope.names [])) s3.heap.objs.size X.env = ce at I4 pg pt pe ⊢
  have cL : ce.locals = s3.heap.objs.size := by rw [← hce]; rfl
  generalize hs4 : ({ s3 with heap := pushCells (s3.heap.push { cls := .type "dict", data := .dict #[] }) scope.names } : Shared) = s4 at I4 ⊢
  have st4 : tn 0 s4.heap := T.keep _ _ _ st3 fun b _ o e => by rw [← hs4]; exact pushCells_keeps _ _ _ _ (Heap.get?_push_of_some _ e)
  have stat : ∀ {σ' : L2.St} {H' : Hp} {s' : Shared}, Inv (X.blk s3 H3 scope ce fp) [] σ' H' s' → (∀ b ∈ fp, H' b = none) → ∀ b ∈ fp, FpOk (X.blk s3 H3 scope ce fp) [] H' b := fun {σ' H' s'} I' hn b hb =>
    ⟨hn b hb, (I'.ok.exf b hb).1, I'.ok.exfs b hb, .inl hb, fun x c e => (I'.ok.exf b hb).2 x c e, fun p hp => absurd (show p ∈ ([] : List (Addr × Obj)) ++ [] from hp) (by simp)⟩
  have loop : codeAny (model X.prog X.w) X.A (.compLoop (.SetComp elt [⟨tg, iter, ifs, 0⟩] scope pos) 0 (.ref it) (.ref D) ce) RR s4 := by
    refine compLoopS_any (fun n s' => ∃ i H', Inv (X.blk s3 H3 scope ce fp) [] (wipe σ (own.map (·.2))) H' s' ∧ tn i s'.heap ∧ (∀ b ∈ fp, H' b = none) ∧ W i n H') ?_ m0 ⟨0, H3, I4, st4, fun b hb => (f3 b hb).1.1, w0⟩
    rintro n s5 ⟨i, H5, I5, st5, n5, w5⟩
    rcases turn i n H5 w5 with ⟨stop, qq⟩ | ⟨go, Nx, hNx, step⟩
    · refine thnF (T.done (X.blk s3 H3 scope ce fp) rfl rfl rfl hc i [] s5 _ H5 (fun _ _ => False) I5 (stat I5 n5) st5 stop) fun r s6 ⟨hr, I6⟩ => ?_
      subst hr
      have I7 : Inv X pins σ H5 s6 := I3.call' (ch := fp) I6.os I6.base I6.hok I6.bare fun b hb => ⟨(f3 b hb).1.2.2.2.1, (f3 b hb).1.2.1, (f3 b hb).1.2.2.2.2.1, (f3 b hb).1.2.2.2.2.2⟩
      have nC : H5 s3.heap.objs.size = none := cL ▸ I6.free
      obtain ⟨m, hn, _⟩ := I6.loc
      have hn' : s6.heap.Ns s3.heap.objs.size m := cL ▸ hn
      refine ⟨m, hn', fun h'' sb => ?_⟩
      obtain ⟨f0, f1, _, f3', f4, f5⟩ := I3.fpOk (Nat.le_refl _) nC
      exact ⟨.ref D, H5, I7.turned (t' := s6.toks) (fun b o hb e => (sb.2 b hb).trans e) f0 f1 f3' f4 f5, rfl, qq⟩
    · refine thnF (T.item (X.blk s3 H3 scope ce fp) rfl rfl rfl hc i [] s5 _ H5 (fun _ _ => False) I5 (stat I5 n5) st5 go) fun r s6 ⟨u, hr, h6⟩ => ?_
      subst hr
      refine thnF h6 fun _ s7 ⟨x, H7, I7, r7, y7, st7, n7⟩ => ?_
      have I7' := I7.pinned (stat I7 n7) (T.obj _ _ st7)
      refine thnF (pg.run _ s7 _ H7 x u _ I7' r7 (step x H7 y7)) fun _ s8 ⟨σ8, H8, I8, hw8, q8⟩ => ?_
      refine thnF (pt.run _ s8 σ8 H8 _ I8 q8) fun b s9 ⟨H9, I9, q9⟩ => ?_
      have fin : ∀ {s' : Shared} {H' : Hp}, Inv (X.blk s3 H3 scope ce fp) ([] ++ pinsAt fp s7.heap) σ8 H' s' → Nx H' → ∃ m, m < n ∧ ∃ i H', Inv (X.blk s3 H3 scope ce fp) [] (wipe σ (own.map (·.2))) H' s' ∧ tn i s'.heap ∧ (∀ b ∈ fp, H' b = none) ∧ W i m H' := fun {s' H'} I' nx => by
        obtain ⟨m', hm, w'⟩ := hNx H' nx
        have pin' : ∀ b ∈ fp, ∀ o, s7.heap.get? b = some o → s'.heap.get? b = some o ∧ H' b = none := fun b hb o e =>
          ⟨(I'.pin (b, o) (List.mem_append_right _ (List.mem_append_right _ (mem_pinsAt hb e)))).1, (I'.pin (b, o) (List.mem_append_right _ (List.mem_append_right _ (mem_pinsAt hb e)))).2.1⟩
        have hl : (wipe σ (own.map (·.2))).length = σ8.length := by rw [← hw8, wipe_length]
        refine ⟨m', hm, i + 1, H', (I'.unpinned (pins := [])).weak hl (fun j v e => ?_), T.keep _ _ _ st7 fun b hb o e => (pin' b hb o e).1, fun b hb => ?_, w'⟩
        · rw [← hw8] at e
          exact (wipe_some e).1
        · obtain ⟨o, e, _⟩ := T.obj _ _ st7 b hb
          exact (pin' b hb o e).2
      cases b with
      | false =>
        rw [if_neg Bool.false_ne_true] at q9
        exact fin I9 q9
      | true =>
        rw [if_pos rfl] at q9
        refine thnF (pe.run _ s9 σ8 H9 _ I9 q9) fun z s10 ⟨yv, H10, I10, r10, k, ks, ey, hD10, hz10, nx⟩ => ?_
        subst ey
        exact add_ok (X := X.blk s3 H3 scope ce fp) I10 hD10 r10 hz10 fun s11 I11 => fin I11 nx
  exact codeAny_compStart_set loop (T.self X.A 0 _ _ _ st4 loop)
end
end SM

set_option Elab.async false
set_option linter.all false
set_option maxRecDepth 100000
set_option maxHeartbeats 2000000
namespace SM
open PySem PySem.Spec PyProof.Rows L2 DL PpSet
/-! ### sorted(..) of data that are alike -/
abbrev leD : PyData → PyData → Bool := PySem.W.dataLe false (fun d => d)
theorem each_zip {R : Value → V → Prop} : ∀ {its : List Value} {xs : List V} {ds : List PyData}, Paired (fun x u => R u x) xs its → xs.length = ds.length → PySem.W.EachIs (fun v (b : V × PyData) => R v b.1) its (xs.zip ds)
  | [], [], [], .nil, _ => .nil
  | _ :: _, _ :: _, _ :: _, .cons q t, h => .cons q (each_zip t (by simpa using h))
  | _ :: _, _ :: _, [], .cons _ _, h => by simp at h
theorem each_reads {X : Cx} {pins : List (Addr × Obj)} {σ : L2.St} {H : Hp} {s : Shared} (I : Inv X pins σ H s) : ∀ {its : List Value} {xs : List V} {ds : List PyData}, Vals xs its → DpAll X.K H xs ds → PySem.W.EachIs (fun v (b : V × PyData) => ∃ as, Reads s.heap v b.2 as) its (xs.zip ds)
  | [], [], [], .nil, _ => .nil
  | _ :: _, _ :: _, _ :: _, .cons q t, .cons a b => .cons (Dp.reads I _ _ _ a q) (each_reads I t b)
theorem dpAll_len {K : PySem.W.Frag} {H : Hp} : ∀ {vs : List V} {ds : List PyData}, DpAll K H vs ds → vs.length = ds.length
  | _, _, .nil => rfl
  | _, _, .cons _ b => congrArg (· + 1) (dpAll_len b)
theorem vals_out : ∀ {out : List Value} {bs : List (V × PyData)}, PySem.W.EachIs (fun v (b : V × PyData) => RelV b.1 v) out bs → Vals (bs.map (·.1)) out
  | [], [], .nil => .nil
  | _ :: _, _ :: _, .cons q t => .cons q (vals_out t)
theorem zip_maps : ∀ bs : List (V × PyData), (bs.map (·.1)).zip (bs.map (·.2)) = bs
  | [] => rfl
  | b :: bs => by rw [List.map_cons, List.map_cons, List.zip_cons_cons, zip_maps bs]
section
variable {X : Cx}
theorem cr_sortD : CallR X (.builtin "sorted") (fun vs H Q => ∃ (a : Addr) (xs : List V) (ds : List PyData), vs = [V.ref a] ∧ H a = some (.lst xs) ∧ DpAll X.K H xs ds ∧ PySem.W.AllAlike ds ∧ PySem.W.Sortable ds ∧ (∀ d ∈ ds, X.A.units + 2 + d.depth < cLine) ∧
    ∀ (ys : List V) (p : Addr), (ys.zip (ds.mergeSort leD)).Perm (xs.zip ds) → ys.length = (ds.mergeSort leD).length → H p = none → Q (.ref p) (upd H p (.lst ys))) := by
  intro pins s σ H vs us Q I r h
  obtain ⟨a, xs, ds, rfl, ha, hd, hal, hk, hu, q⟩ := h
  rw [Vals.ref1 r]
  obtain ⟨hz, its, n, rv, ho⟩ := (show ObjOk X.prog X.w H s.heap a (.lst xs) from I.hok a _ ha)
  have hl : xs.length = ds.length := dpAll_len hd
  have e2 : (xs.zip ds).map (fun b => b.2) = ds := List.map_snd_zip (by omega)
  have hbl : (xs.zip ds).length = xs.length := by rw [List.length_zip, hl]; omega
  have em : ((xs.zip ds).mergeSort (PySem.W.dataLe false fun b => b.2)).map (fun b => b.2) = ds.mergeSort leD := by
    have q := PySem.W.sort_maps (r := PySem.W.dataLe false fun b : V × PyData => b.2) (s := leD) (fun b : V × PyData => b.2) (l := xs.zip ds) (fun _ _ _ _ => rfl)
    rw [e2] at q
    exact q
  refine PySem.W.sorted_data (vs := its) (bs := xs.zip ds) (enc := fun b => b.2) (R := fun v b => RelV b.1 v) ⟨_, ho, rfl, n, rfl⟩ (each_zip rv hl) (each_reads I rv hd) (by rw [e2]; exact hal) (by rw [e2]; exact hk) (by rw [hbl]; exact hz)
    (fun b hb => hu _ (by rw [← e2]; exact List.mem_map.mpr ⟨b, hb, rfl⟩)) fun out hol eo => ?_
  obtain ⟨c, hc⟩ := sortedAll_at s.heap its out.toArray
  have hp := vals_out eo
  have hyl : (((xs.zip ds).mergeSort (PySem.W.dataLe false fun b => b.2)).map (·.1)).length ≤ sizeLine := by
    rw [List.length_map, List.length_mergeSort, hbl]
    exact hz
  refine ⟨.ref _, _, I.laid (t' := s.toks) (o := .lst (((xs.zip ds).mergeSort (PySem.W.dataLe false fun b => b.2)).map (·.1))) (fun b o x => sortedAll_old x) (Nat.le_succ _) ⟨hyl, out, c, hp, hc⟩, rfl, ?_⟩
  refine q _ _ ?_ ?_ (I.hok.fresh (Nat.le_succ _))
  · rw [← em, zip_maps]
    exact List.mergeSort_perm _ _
  · rw [← em, List.length_map, List.length_map]
end
theorem dvAll_perm {K : PySem.W.Frag} {H : Hp} : ∀ {ys : List V} {es : List PyData}, ys.length = es.length → (∀ b ∈ ys.zip es, Dv K H b.1 b.2) → DvAll K H ys es
  | [], [], _, _ => .nil
  | y :: ys, e :: es, h, g => .cons (g (y, e) (by simp)) (dvAll_perm (by simpa using h) fun b hb => g b (by simp [hb]))
  | [], _ :: _, h, _ => by simp at h
  | _ :: _, [], h, _ => by simp at h
theorem dvAll_zip {K : PySem.W.Frag} {H : Hp} : ∀ {ys : List V} {es : List PyData}, DvAll K H ys es → ∀ b ∈ ys.zip es, Dv K H b.1 b.2
  | _, _, .nil, b, hb => by simp at hb
  | _, _, .cons a t, b, hb => by
    rw [List.zip_cons_cons] at hb
    rcases List.mem_cons.mp hb with rfl | hb
    · exact a
    · exact dvAll_zip t b hb
section
variable {X : Cx} {O : Own} {P : DL.W → Own → Prop} {w : DL.W}
/-- sorted(xs), a new list -/
theorem c_sortD {ds : List PyData} (r : RdL w O ds) (hal : PySem.W.AllAlike ds) (hk : PySem.W.Sortable ds) (hu : ∀ d ∈ ds, X.A.units + 2 + d.depth < cLine) (h : P (.d (.list (ds.mergeSort leD))) O) : CallD X (.builtin "sorted") [w] O P :=
  calld_of cr_sortD fun vs Hr H Q hS h1 hQ => by
    cases h1 with
    | cons k1 k2 =>
      cases k2
      obtain ⟨p, us, rfl, e1, a1⟩ := r.at hS k1
      refine ⟨p, us, ds, rfl, e1, DvAll.dp (dvAll_mono hS.ex a1), hal, hk, hu, fun ys p hp hl hn => hQ _ _ (po_new h hS hn ?_)⟩
      exact .lst upd_same (dvAll_mono (same_new (hS.fresh hn).1) (dvAll_perm hl fun b hb => dvAll_zip a1 b (hp.mem_iff.mp hb)))
end
end SM

set_option Elab.async false
set_option linter.all false
set_option maxRecDepth 100000
set_option maxHeartbeats 2000000
namespace SM
open PySem PySem.Spec PyProof.Rows L2 DL PpSet
/-! ### sorted(..) of a set of keys -/
def isKey1 : Key → Bool
  | .inl _ => true
  | .inr _ => false
theorem each_keys {P : Program} {w : World} : ∀ {vs : List Value}, (∀ v ∈ vs, RelV (kV (keyV v)) v) → PySem.W.EachIs (fun v (k : Key) => RelV (kV k) v) vs (vs.map keyV)
  | [], _ => .nil
  | v :: vs, h => .cons (h v (by simp)) (each_keys (P := P) (w := w) fun x hx => h x (by simp [hx]))
theorem reads_key {h : Heap} {k : Key} {v : Value} (r : RelV (kV k) v) : Reads h v (keyD k) [] := by
  cases k with
  | inl i => obtain ⟨t, rfl⟩ := r; exact .int _ _
  | inr x => obtain ⟨t, rfl⟩ := r; exact .str _ _
theorem each_readsK {h : Heap} {a : Addr} : ∀ {vs : List Value}, (∀ v ∈ vs, RelV (kV (keyV v)) v) → PySem.W.EachIs (fun v (k : Key) => ∃ as, Reads h v (keyD k) as ∧ a ∉ as) vs (vs.map keyV)
  | [], _ => .nil
  | v :: vs, q => .cons ⟨[], reads_key (q v (by simp)), by simp⟩ (each_readsK fun x hx => q x (by simp [hx]))
theorem vals_keys : ∀ {out : List Value} {ks : List Key}, PySem.W.EachIs (fun v (k : Key) => RelV (kV k) v) out ks → Vals (ks.map kV) out
  | [], [], .nil => .nil
  | _ :: _, _ :: _, .cons q t => .cons q (vals_keys t)
abbrev leK : Key → Key → Bool := PySem.W.dataLe false keyD
section
variable {X : Cx}
theorem cr_sortM (hc : X.calm = true) (hu : X.A.units + 64 < cLine) : CallR X (.builtin "sorted") (fun vs H Q => ∃ (a : Addr) (ks : List Key), vs = [V.ref a] ∧ H a = some (SetMO X.prog X.w a ks) ∧ PySem.W.AllAlike (ks.map keyD) ∧ ks.length ≤ 5000 ∧
    ∀ (ks' : List Key) (p : Addr), (∃ l : List Key, l.Perm ks ∧ ks' = l.mergeSort leK) → H p = none → Q (.ref p) (upd H p (.lst (ks'.map kV)))) := by
  intro pins s σ H vs us Q I r h
  obtain ⟨a, ks, rfl, ha, hal, hlen, q⟩ := h
  rw [Vals.ref1 r]
  have R := setMO_get I ha
  obtain ⟨o, es, ep, t, ho, hex, hd, ⟨m1, m2, m3⟩, hb, hf, hr, hl⟩ := R
  refine Calls.call_function_entry kind_sorted plain_sorted entry_sorted (args_sorted1 _) ?_
  unfold Builtin.«sorted»
  refine wpAny_bind (m := checkCount "sorted" 1 1 _) (wpAny_pure ?_)
  refine wpAny_bind (collect_set (A := X.A.in1) (I.ok.hd hc) ⟨o, ho, hex.1, hd⟩ hf hb hr hl fun s1 vs k1 hz g1 o1 pm => ?_)
  have hv : ∀ v ∈ vs, RelV (kV (keyV v)) v := fun v hv => by
    obtain ⟨e, he, z⟩ := List.mem_map.mp (pm.mem_iff.mp hv)
    rw [← z]
    exact (m1 e he).1
  have hpk : (vs.map keyV).Perm ks := by
    refine (pm.map keyV).trans ?_
    rw [List.map_map]
    exact m2
  have hvl : vs.length = ks.length := by rw [← hpk.length_eq, List.length_map]
  refine wpAny_bind (wpAny_newList ?_ (by rw [hvl, sizeLine_eq]; omega))
  have hoL : (s1.heap.push (seqObj "list" vs.toArray 0)).get? s1.heap.objs.size = some (seqObj "list" vs.toArray 0) := Heap.get?_push_size _ rfl
  have hal2 : PySem.W.AllAlike ((vs.map keyV).map keyD) := fun d hd d' hd' => hal d ((hpk.map keyD).mem_iff.mp hd) d' ((hpk.map keyD).mem_iff.mp hd')
  have hso : PySem.W.Sortable ((vs.map keyV).map keyD) := .inr fun d hd => by
    obtain ⟨k, _, rfl⟩ := List.mem_map.mp hd
    cases k <;> exact ⟨nofun, nofun⟩
  refine wpAny_bind (wpAny_holding (PySem.W.list_sort_data (vs := vs) (bs := vs.map keyV) (enc := keyD) (R := fun v k => RelV (kV k) v) hoL (each_keys (P := X.prog) (w := X.w) hv) (each_readsK hv) hal2 hso (by rw [List.length_map, hvl, sizeLine_eq]; omega) (fun k hk => ?_) fun out hol eo => ?_))
  · have e0 : (keyD k).depth = 0 := by cases k <;> rfl
    rw [e0]
    show X.A.units + 1 + 1 + 0 < cLine
    omega
  obtain ⟨c, hc2⟩ := sortedHeap_at (vs := vs) (out := out.toArray) hoL
  have kk : ∀ b u, s.heap.get? b = some u → (sortedHeap (s1.heap.push (seqObj "list" vs.toArray 0)) s1.heap.objs.size vs out.toArray).get? b = some u := fun b u e => by
    have q := k1 b u e
    have hlt := Heap.lt_size q
    rw [sortedHeap_old (Nat.ne_of_lt hlt) (by rw [size_push']; exact Nat.lt_succ_of_lt hlt)]
    exact Heap.get?_push_of_some _ q
  have hn : H s1.heap.objs.size = none := I.hok.fresh hz
  have hll : (((vs.map keyV).mergeSort leK).map kV).length ≤ sizeLine := by rw [List.length_map, List.length_mergeSort, List.length_map, hvl, sizeLine_eq]; omega
  have J := I.call' (s' := { s1 with heap := sortedHeap (s1.heap.push (seqObj "list" vs.toArray 0)) s1.heap.objs.size vs out.toArray }) (ch := []) (H' := upd H s1.heap.objs.size (.lst (((vs.map keyV).mergeSort leK).map kV))) o1 (Un.laid kk hz hn)
    (I.hok.laid kk hz ⟨hll, out, c, vals_keys eo, hc2⟩) (by show AllBare s1.gens; rw [g1]; exact I.bare) (fun _ z => nomatch z)
  exact wpAny_pure ⟨_, rfl, .ref s1.heap.objs.size, _, J, rfl, q _ _ ⟨_, hpk, rfl⟩ hn⟩
end
end SM

set_option Elab.async false
set_option linter.all false
set_option maxRecDepth 100000
set_option maxHeartbeats 2000000
namespace SM
open PySem PySem.Spec PyProof.Rows L2 DL PpSet
section
variable {X : Cx} {τ : Tau} {O : Own} {P : DL.W → Own → Prop} {elt t iter : Expr} {ifs : List Expr} {scope : Scope} {own : List (Str × Nat)} {pos : Pos} {g : TG} {w : DL.W}
/-- a set comprehension, by the turns of what is walked -/
theorem sc_it {pr : Program} {wo : World} {J : It} {n : Nat} {G : Hp → Prop} {Y : Nat → Hp → V → Hp → Prop} (wk : Walk J n G Y) {tt : TT} {te : TE} {vs : List Nat} {σ : L2.St} {H1 : Hp} {D : Addr} {Qd : Hp → Prop} (Pv : Nat → Hp → Prop) (h0 : Pv 0 (upd H1 D (SetMO pr wo D []))) (hG : ∀ i H, i ≤ n → Pv i H → G H)
    (hs : ∀ i x H H', i < n → Pv i H → Y i H x H' → g x (wipe σ vs) H' fun σ2 H2 => wipe σ2 vs = wipe σ vs ∧ tt σ2 H2 fun b H3 =>
      if b = true then te σ2 H3 fun y H4 => ∃ (k : Key) (ks : List Key), y = kV k ∧ H4 D = some (SetMO pr wo D ks) ∧ ks.length + 1 < scanBound ∧ Pv (i + 1) (upd H4 D (SetMO pr wo D (addK ks k))) else Pv (i + 1) H3) (hd : ∀ H, Pv n H → Qd H) :
    ∃ W : Nat → Nat → Hp → Prop, (∃ m, W 0 m (upd H1 D (SetMO pr wo D []))) ∧ ∀ i m H, W i m H →
      (J.stop i H ∧ Qd H) ∨ (J.go i H ∧ ∃ Nx : Hp → Prop, (∀ H', Nx H' → ∃ m', m' < m ∧ W (i + 1) m' H') ∧ ∀ x H', J.yld i H x H' → g x (wipe σ vs) H' fun σ2 H2 => wipe σ2 vs = wipe σ vs ∧ tt σ2 H2 fun b H3 =>
        if b = true then te σ2 H3 fun y H4 => ∃ (k : Key) (ks : List Key), y = kV k ∧ H4 D = some (SetMO pr wo D ks) ∧ ks.length + 1 < scanBound ∧ Nx (upd H4 D (SetMO pr wo D (addK ks k))) else Nx H3) := by
  refine ⟨fun i m H => n = m + i ∧ Pv i H, ⟨n, rfl, h0⟩, ?_⟩
  rintro i m H ⟨hi, p⟩
  have q := hG i H (by omega) p
  cases m with
  | zero =>
    have e : i = n := by omega
    subst e
    exact .inl ⟨wk.stops H q, hd H p⟩
  | succ m => exact .inr ⟨wk.goes i H (by omega) q, Pv (i + 1), fun H' p' => ⟨m, Nat.lt_succ_self m, by omega, p'⟩, fun x H' y => hs i x H H' (by omega) p (wk.yields i H x H' (by omega) q y)⟩
def scF (kf : PyData → Key) (kp : PyData → Bool) (ds : List PyData) : List Key := ds.foldl (fun acc d => if kp d = true then addK acc (kf d) else acc) []
theorem addK_len (ks : List Key) (k : Key) : (addK ks k).length ≤ ks.length + 1 := by
  unfold addK
  split <;> simp
theorem fold_lenK (kf : PyData → Key) (kp : PyData → Bool) : ∀ (ds : List PyData) (acc : List Key), (ds.foldl (fun acc d => if kp d = true then addK acc (kf d) else acc) acc).length ≤ acc.length + ds.length
  | [], acc => Nat.le_refl _
  | d :: ds, acc => by
    rw [List.foldl_cons]
    refine Nat.le_trans (fold_lenK kf kp ds _) ?_
    have := addK_len acc (kf d)
    simp only [List.length_cons]
    split <;> omega
def ScD (X : Cx) (τ : Tau) (O : Own) (elt : Expr) (ifs : List Expr) (scope : Scope) (vs : List Nat) (g : TG) (P : Addr → List Key → Own → Prop) (ds : List PyData) : Prop :=
  ∃ (kf : PyData → Key) (kp : PyData → Bool), ds.length ≤ 4000 ∧
    (∀ (i : Nat) (d : PyData), ds[i]? = some d → ∃ τ2, TgOk X.K g vs d (wipeT τ vs) τ2 ∧ ∀ (p : Addr) (ks : List Key) (s : Shared) (H : Hp) (C : Addr) (cl : List (Str × Addr)) (fp : List Addr),
      DTs (blk X scope s H C cl fp) τ2 ((p, .o (SetMO X.prog X.w p ks)) :: O) ifs (fun b O3 => b = kp d ∧ O3 = (p, .o (SetMO X.prog X.w p ks)) :: O) ∧
      (kp d = true → DE (blk X scope s H C cl fp) τ2 ((p, .o (SetMO X.prog X.w p ks)) :: O) elt (fun w O4 => w = .d (keyD (kf d)) ∧ O4 = (p, .o (SetMO X.prog X.w p ks)) :: O))) ∧
    ∀ p, P p (scF kf kp ds) O
theorem de_scO (own : List (Str × Nat)) (g : TG) (hN : X.N.Nodup) (ok : BlkOk X.N X.env.scope scope own) (hg : ∀ (s : Shared) (H : Hp) (C : Addr) (cl : List (Str × Addr)) (fp : List Addr), PG (blk X scope s H C cl fp) t g)
    (h : IterD X t iter τ O fun ds O1 => ScD X τ O1 elt ifs scope (own.map (·.2)) g (fun p ks O2 => P (.r (.ref p)) ((p, .o (SetMO X.prog X.w p ks)) :: O2)) ds) (hc : X.calm = true := by rfl) (hs : ∀ x, foldedSetIterable iter X.env x = pure x := by intro _; rfl) :
    DE X τ O (.SetComp elt [⟨t, iter, ifs, 0⟩] scope pos) P := by
  refine ⟨?_⟩
  intro σ Hr H Q hE hS hQ pins s I
  refine (pe_scM (own := own) (tt := tIfs X scope ifs) (te := tElt X scope elt) hc hN pi_ti ok hg (fun s H C cl fp => ⟨fun pins s1 σ H1 Q I h => h s H C cl fp pins s1 I⟩) (fun s H C cl fp => ⟨fun pins s1 σ H1 Q I h => h s H C cl fp pins s1 I⟩) hs).run pins s σ H Q I ?_
  refine h σ Hr H _ hE hS fun J H1 ds O1 Hr1 ⟨kf, kp, hz, hstep, hend⟩ e1 s1 ok => ?_
  intro Dl hD
  refine sc_it (g := g) (vs := own.map (·.2)) (σ := σ) (tt := tIfs X scope ifs) (te := tElt X scope elt) (Qd := fun H' => Q (.ref Dl) H') ok (fun i H' => ∃ (Hr' : Hp), Same Hr1 Hr' ∧ Sep X.K Hr' ((Dl, .o (SetMO X.prog X.w Dl ((ds.take i).foldl (fun acc d => if kp d = true then addK acc (kf d) else acc) []))) :: O1) H') ⟨Hr1, Same.refl _, s1.newOwn (c := .o (SetMO X.prog X.w Dl [])) hD upd_same⟩ (fun i H' _ ⟨Hr', e, s'⟩ => fun a o q => s'.ex a o (e a o q)) ?_ ?_
  · intro i x H2 H3 hi ⟨Hr', e, s'⟩ y
    obtain ⟨d, Hr2, hd, e2, s2, kd⟩ := y.sep e s'
    obtain ⟨τ2, htg, hb⟩ := hstep i d hd
    have e3 : Same Hr Hr2 := (e1.trans e).trans e2
    refine htg x (wipe σ (own.map (·.2))) Hr2 H3 _ ((hE.mono e3).wiped (own.map (·.2))) s2.ex kd ?_
    intro σ' hE' hw
    refine ⟨hw σ rfl, ?_⟩
    have eN : (ds.take (i + 1)).foldl (fun acc d => if kp d = true then addK acc (kf d) else acc) [] = if kp d = true then addK ((ds.take i).foldl (fun acc d => if kp d = true then addK acc (kf d) else acc) []) (kf d) else (ds.take i).foldl (fun acc d => if kp d = true then addK acc (kf d) else acc) [] := by
      rw [List.take_succ, hd, List.foldl_append]
      rfl
    have hl := fold_lenK kf kp (ds.take i) []
    rw [eN]
    generalize (ds.take i).foldl (fun acc d => if kp d = true then addK acc (kf d) else acc) [] = acc at s2 hl ⊢
    intro s0 H0 C cl fp
    refine (hb Dl acc s0 H0 C cl fp).1 σ' Hr2 H3 _ hE' s2 fun k H4 ⟨O4, Hr4, ⟨hk, p4⟩, e4, s4⟩ => ?_
    subst p4
    cases k with
    | true =>
      rw [if_pos rfl]
      rw [if_pos hk.symm]
      intro s0 H0 C cl fp
      have m1 := (hb Dl acc s0 H0 C cl fp).2 hk.symm
      refine m1 σ' Hr4 H4 _ (hE'.mono e4) s4 fun y H5 ⟨w, O5, Hr5, ⟨hw, ho⟩, e5, s5, k5⟩ => ?_
      subst hw ho
      have u1 := s5.cell (j := 0) rfl
      have hlen : acc.length + 1 < scanBound := by
        have e6 : scanBound = 4096 := rfl
        rw [e6]
        simp only [List.length_nil, List.length_take] at hl
        omega
      exact ⟨kf d, acc, keyD_v k5, u1, hlen, Hr5, ((e.trans e2).trans e4).trans e5, s5.put (j := 0) (c' := .o (SetMO X.prog X.w Dl (addK acc (kf d)))) rfl upd_same⟩
    | false =>
      rw [if_neg Bool.false_ne_true, if_neg (by rw [← hk]; exact Bool.false_ne_true)]
      exact ⟨Hr4, (e.trans e2).trans e4, s4⟩
  · intro H' ⟨Hr', e, s'⟩
    rw [List.take_length] at s'
    exact hQ _ _ ⟨_, _, Hr', hend Dl, e1.trans e, s', rfl⟩
theorem de_sc1 {y : Str} {tp : Pos} (i : Nat) (hN : X.N.Nodup) (ok : BlkOk X.N X.env.scope scope [(y, i)])
    (h : IterD X (.Name y tp) iter τ O fun ds O1 => ScD X τ O1 elt ifs scope [i] (gName i) (fun p ks O2 => P (.r (.ref p)) ((p, .o (SetMO X.prog X.w p ks)) :: O2)) ds)
    (hg : ∀ (s : Shared) (H : Hp) (C : Addr) (cl : List (Str × Addr)) (fp : List Addr), PG (blk X scope s H C cl fp) (.Name y tp) (gName i) := by exact fun _ _ _ _ _ => pg_name (by assumption) rfl (by first | exact Or.inl rfl | exact Or.inr rfl)) (hc : X.calm = true := by rfl) (hs : ∀ x, foldedSetIterable iter X.env x = pure x := by intro _; rfl) :
    DE X τ O (.SetComp elt [⟨.Name y tp, iter, ifs, 0⟩] scope pos) P := de_scO [(y, i)] (gName i) hN ok hg h hc hs
theorem dvAll_keys {K : PySem.W.Frag} {H : Hp} : ∀ m : List Key, DvAll K H (m.map kV) (m.map keyD)
  | [] => .nil
  | k :: r => .cons (by cases k <;> first | exact .int _ | exact .str _) (dvAll_keys r)
/-- sorted of an owned set: the set is let go -/
theorem c_sortM {p : Addr} {ks : List Key} {O' : Own} (hc : X.calm = true) (hu : X.A.units + 64 < cLine) (ho : O = (p, .o (SetMO X.prog X.w p ks)) :: O') (hal : PySem.W.AllAlike (ks.map keyD)) (hl : ks.length ≤ 5000) (h : ∀ l : List Key, l.Perm ks → P (.d (.list ((l.mergeSort leK).map keyD))) O') : CallD X (.builtin "sorted") [.r (.ref p)] O P :=
  calld_of (cr_sortM hc hu) fun vs Hr H Q hS h1 hQ => by
    subst ho
    cases h1 with
    | cons k1 k2 =>
      cases k2
      cases k1
      have u1 := hS.cell (j := 0) rfl
      refine ⟨p, ks, rfl, u1, hal, hl, fun ks' q ⟨l, hp, e⟩ hn => hQ _ _ ?_⟩
      subst e
      have S2 := hS.drop
      refine po_new (h l hp) S2 hn (.lst upd_same ?_)
      exact dvAll_keys _
theorem scF_mem (kf : PyData → Key) (kp : PyData → Bool) (k : Key) : ∀ (ds : List PyData) (acc : List Key), k ∈ ds.foldl (fun acc d => if kp d = true then addK acc (kf d) else acc) acc ↔ k ∈ acc ∨ ∃ d ∈ ds, kp d = true ∧ kf d = k
  | [], acc => by simp
  | d :: ds, acc => by
    rw [List.foldl_cons, scF_mem kf kp k ds]
    have e : k ∈ (if kp d = true then addK acc (kf d) else acc) ↔ k ∈ acc ∨ (kp d = true ∧ kf d = k) := by
      by_cases h : kp d = true
      · rw [if_pos h]
        by_cases h2 : kf d ∈ acc
        · rw [addK_in h2]
          exact ⟨.inl, fun q => q.elim id fun z => z.2 ▸ h2⟩
        · rw [addK_out h2, List.mem_append, List.mem_singleton]
          exact ⟨fun q => q.elim .inl fun z => .inr ⟨h, z.symm⟩, fun q => q.elim .inl fun z => .inr z.2.symm⟩
      · rw [if_neg h]
        exact ⟨.inl, fun q => q.elim id fun z => absurd z.1 h⟩
    rw [e]
    constructor
    · rintro ((q | q) | ⟨x, hx, q⟩)
      · exact .inl q
      · exact .inr ⟨d, by simp, q⟩
      · exact .inr ⟨x, by simp [hx], q⟩
    · rintro (q | ⟨x, hx, q⟩)
      · exact .inl (.inl q)
      · rcases List.mem_cons.mp hx with rfl | hx
        · exact .inl (.inr q)
        · exact .inr ⟨x, hx, q⟩
theorem addK_nodup {ks : List Key} {k : Key} (h : ks.Nodup) : (addK ks k).Nodup := by
  by_cases h2 : k ∈ ks
  · rw [addK_in h2]; exact h
  · rw [addK_out h2]
    refine List.nodup_append.mpr ⟨h, by simp, fun x hx y hy => ?_⟩
    rw [List.mem_singleton.mp hy]
    exact fun q => h2 (q ▸ hx)
theorem scF_nodup (kf : PyData → Key) (kp : PyData → Bool) : ∀ (ds : List PyData) (acc : List Key), acc.Nodup → (ds.foldl (fun acc d => if kp d = true then addK acc (kf d) else acc) acc).Nodup
  | [], acc, h => h
  | d :: ds, acc, h => by
    rw [List.foldl_cons]
    refine scF_nodup kf kp ds _ ?_
    split
    · exact addK_nodup h
    · exact h
end
end SM

set_option Elab.async false
set_option linter.all false
set_option maxRecDepth 100000
set_option maxHeartbeats 2000000
/-! the order of values -/
namespace VO
open PySem PySem.Spec PyProof.Rows L2 DL SX PK SM
/-- each once, in the order met -/
def addU {α : Type} [DecidableEq α] (xs : List α) (x : α) : List α := if x ∈ xs then xs else xs ++ [x]
def uniq {α : Type} [DecidableEq α] (xs : List α) : List α := xs.foldl addU []
theorem mem_foldU {α : Type} [DecidableEq α] {x : α} : ∀ (xs acc : List α), x ∈ xs.foldl addU acc ↔ x ∈ acc ∨ x ∈ xs
  | [], acc => by simp
  | y :: ys, acc => by
    rw [List.foldl_cons, mem_foldU ys]
    have e : x ∈ addU acc y ↔ x ∈ acc ∨ x = y := by
      unfold addU
      by_cases h : y ∈ acc
      · rw [if_pos h]
        exact ⟨.inl, fun q => q.elim id fun z => z ▸ h⟩
      · rw [if_neg h, List.mem_append, List.mem_singleton]
    rw [e, List.mem_cons, or_assoc]
theorem mem_uniq {α : Type} [DecidableEq α] {x : α} {xs : List α} : x ∈ uniq xs ↔ x ∈ xs := by
  unfold uniq
  rw [mem_foldU]
  simp
theorem foldU_nodup {α : Type} [DecidableEq α] : ∀ (xs acc : List α), acc.Nodup → (xs.foldl addU acc).Nodup
  | [], acc, h => h
  | y :: ys, acc, h => by
    rw [List.foldl_cons]
    refine foldU_nodup ys _ ?_
    unfold addU
    by_cases h2 : y ∈ acc
    · rw [if_pos h2]; exact h
    · rw [if_neg h2]
      refine List.nodup_append.mpr ⟨h, by simp, fun x hx z hz => ?_⟩
      rw [List.mem_singleton.mp hz]
      exact fun q => h2 (q ▸ hx)
theorem uniq_nodup {α : Type} [DecidableEq α] (xs : List α) : (uniq xs).Nodup := foldU_nodup xs [] List.nodup_nil
theorem foldU_len {α : Type} [DecidableEq α] : ∀ (xs acc : List α), (xs.foldl addU acc).length ≤ acc.length + xs.length
  | [], acc => Nat.le_refl _
  | y :: ys, acc => by
    rw [List.foldl_cons]
    refine Nat.le_trans (foldU_len ys _) ?_
    have : (addU acc y).length ≤ acc.length + 1 := by unfold addU; split <;> simp
    simp only [List.length_cons]
    omega
def intsOf (ds : List PyData) : List Int := ds.filterMap fun | .int i => some i | _ => none
def strsOf (ds : List PyData) : List Str := ds.filterMap fun | .str z => some z | _ => none
def leI (a b : Int) : Bool := decide (a ≤ b)
def leS (a b : Str) : Bool := decide (a.cps.toList ≤ b.cps.toList)
/-- the values of ds, in order, each once -/
def vo (ds : List PyData) : List PyData := ((uniq (intsOf ds)).mergeSort leI).map .int ++ ((uniq (strsOf ds)).mergeSort leS).map .str
theorem str_eq {a b : Str} (h : a.cps.toList = b.cps.toList) : a = b := TL.ext_tl h
theorem leI_same {xs ys : List Int} (h : xs.Perm ys) : xs.mergeSort leI = ys.mergeSort leI := by
  have tr : ∀ a b c : Int, leI a b = true → leI b c = true → leI a c = true := by
    intro a b c h1 h2
    simp only [leI, decide_eq_true_iff] at *
    omega
  have tot : ∀ a b : Int, (leI a b || leI b a) = true := by
    intro a b
    simp only [leI, Bool.or_eq_true, decide_eq_true_iff]
    omega
  refine List.Perm.eq_of_pairwise (le := fun a b => leI a b = true) ?_ (List.pairwise_mergeSort tr tot xs) (List.pairwise_mergeSort tr tot ys) (((List.mergeSort_perm xs leI).trans h).trans (List.mergeSort_perm ys leI).symm)
  intro a b _ _ h1 h2
  simp only [leI, decide_eq_true_iff] at *
  omega
theorem leS_same {xs ys : List Str} (h : xs.Perm ys) : xs.mergeSort leS = ys.mergeSort leS := by
  have tr : ∀ a b c : Str, leS a b = true → leS b c = true → leS a c = true := by
    intro a b c h1 h2
    simp only [leS, decide_eq_true_iff] at *
    exact List.le_trans h1 h2
  have tot : ∀ a b : Str, (leS a b || leS b a) = true := by
    intro a b
    simp only [leS, Bool.or_eq_true, decide_eq_true_iff]
    exact List.le_total _ _
  refine List.Perm.eq_of_pairwise (le := fun a b => leS a b = true) ?_ (List.pairwise_mergeSort tr tot xs) (List.pairwise_mergeSort tr tot ys) (((List.mergeSort_perm xs leS).trans h).trans (List.mergeSort_perm ys leS).symm)
  intro a b _ _ h1 h2
  simp only [leS, decide_eq_true_iff] at *
  exact str_eq (List.le_antisymm h1 h2)
theorem sort_ints (L : List Int) : (L.map PyData.int).mergeSort leD = (L.mergeSort leI).map PyData.int := by
  refine (PySem.W.sort_maps (r := leI) (s := leD) PyData.int fun a _ b _ => ?_).symm
  have e := congrFun (congrFun (PySem.W.dataLe_int (fun x : Int => x)) a) b
  exact e.symm
theorem sort_strs (L : List Str) : (L.map PyData.str).mergeSort leD = (L.mergeSort leS).map PyData.str := by
  refine (PySem.W.sort_maps (r := leS) (s := leD) PyData.str fun a _ b _ => ?_).symm
  have e := congrFun (congrFun (PySem.W.dataLe_str (fun x : Str => x)) a) b
  exact e.symm
/-- codes of a text, as data -/
def codesD (z : Str) : PyData := octD z.cps.toList
theorem lt_cast : ∀ xs ys : List Nat, (xs.map fun (c : Nat) => (c : Int)) < (ys.map fun (c : Nat) => (c : Int)) ↔ xs < ys
  | [], [] => by simp
  | [], _ :: _ => by simp
  | _ :: _, [] => by simp
  | x :: xs, y :: ys => by
    rw [List.map_cons, List.map_cons, List.cons_lt_cons_iff, List.cons_lt_cons_iff, lt_cast xs ys]
    have e1 : ((x : Int) < (y : Int)) ↔ x < y := by omega
    have e2 : ((x : Int) = (y : Int)) ↔ x = y := by omega
    rw [e1, e2]
theorem sort_codes (L : List Str) : (L.map codesD).mergeSort leD = (L.mergeSort leS).map codesD := by
  refine (PySem.W.sort_maps (r := leS) (s := leD) codesD fun a _ b _ => ?_).symm
  have q := congrFun (congrFun (PySem.W.dataLe_rows (fun z : Str => z.cps.toList.map fun (c : Nat) => (c : Int))) a) b
  have e0 : ∀ z : Str, codesD z = .list ((z.cps.toList.map fun (c : Nat) => (c : Int)).map .int) := fun z => by rw [List.map_map]; rfl
  show leS a b = PySem.W.dataLe false (fun d => d) (codesD a) (codesD b)
  rw [e0, e0]
  refine Eq.trans ?_ q.symm
  show decide _ = decide _
  refine decide_eq_decide.mpr ?_
  rw [← List.not_lt, ← List.not_lt, lt_cast]
end VO
namespace VO
open PySem PySem.Spec PyProof.Rows L2 DL SX PK SM
/-- what may stand in a list of values -/
def isV (d : PyData) : Prop := (∃ i, d = .int i) ∨ ∃ z : Str, d = .str z ∧ z.length ≤ 1000 ∧ z.cps.toList.all inTS = true
def vkI : PyData → Key
  | .int i => .inl i
  | _ => .inl 0
def vkS : PyData → Key
  | .str z => .inr z
  | _ => .inl 0
theorem addK_inl (L : List Int) (i : Int) : addK (L.map Sum.inl) (.inl i) = (addU L i).map Sum.inl := by
  by_cases h : i ∈ L
  · rw [addK_in (List.mem_map.mpr ⟨i, h, rfl⟩)]
    unfold addU
    rw [if_pos h]
  · rw [addK_out]
    · unfold addU
      rw [if_neg h, List.map_append]
      rfl
    · intro q
      obtain ⟨j, hj, e⟩ := List.mem_map.mp q
      cases e
      exact h hj
theorem addK_inr (L : List Str) (i : Str) : addK (L.map Sum.inr) (.inr i) = (addU L i).map Sum.inr := by
  by_cases h : i ∈ L
  · rw [addK_in (List.mem_map.mpr ⟨i, h, rfl⟩)]
    unfold addU
    rw [if_pos h]
  · rw [addK_out]
    · unfold addU
      rw [if_neg h, List.map_append]
      rfl
    · intro q
      obtain ⟨j, hj, e⟩ := List.mem_map.mp q
      cases e
      exact h hj
theorem fold_ints : ∀ (ds : List PyData) (L : List Int), (∀ d ∈ ds, isV d) → ds.foldl (fun acc d => if isIntD d = true then addK acc (vkI d) else acc) (L.map Sum.inl) = ((intsOf ds).foldl addU L).map Sum.inl
  | [], L, _ => rfl
  | d :: ds, L, h => by
    have ih := fun L => fold_ints ds L fun x hx => h x (by simp [hx])
    rcases h d (by simp) with ⟨i, rfl⟩ | ⟨z, rfl, _⟩
    · rw [List.foldl_cons]
      show List.foldl _ (addK (L.map Sum.inl) (.inl i)) ds = _
      rw [addK_inl, ih]
      rfl
    · rw [List.foldl_cons, if_neg (by simp [isIntD]), ih]
      rfl
theorem fold_strs : ∀ (ds : List PyData) (L : List Str), (∀ d ∈ ds, isV d) → ds.foldl (fun acc d => if isStrD d = true then addK acc (vkS d) else acc) (L.map Sum.inr) = ((strsOf ds).foldl addU L).map Sum.inr
  | [], L, _ => rfl
  | d :: ds, L, h => by
    have ih := fun L => fold_strs ds L fun x hx => h x (by simp [hx])
    rcases h d (by simp) with ⟨i, rfl⟩ | ⟨z, rfl, _⟩
    · rw [List.foldl_cons, if_neg (by simp [isStrD]), ih]
      rfl
    · rw [List.foldl_cons]
      show List.foldl _ (addK (L.map Sum.inr) (.inr z)) ds = _
      rw [addK_inr, ih]
      rfl
theorem set_ints {ds : List PyData} (h : ∀ d ∈ ds, isV d) : scF vkI isIntD ds = (uniq (intsOf ds)).map Sum.inl := fold_ints ds [] h
theorem set_strs {ds : List PyData} (h : ∀ d ∈ ds, isV d) : scF vkS isStrD ds = (uniq (strsOf ds)).map Sum.inr := fold_strs ds [] h
theorem leK_D (l : List Key) : (l.mergeSort leK).map keyD = (l.map keyD).mergeSort leD := PySem.W.sort_maps (r := leK) (s := leD) keyD fun _ _ _ _ => rfl
theorem perm_inl {l : List Key} {L : List Int} (h : l.Perm (L.map Sum.inl)) : ∃ M : List Int, l = M.map Sum.inl ∧ M.Perm L := by
  refine ⟨l.filterMap fun | .inl i => some i | _ => none, ?_, ?_⟩
  · have hall : ∀ k ∈ l, ∃ i, k = Sum.inl i := fun k hk => by
      obtain ⟨i, _, e⟩ := List.mem_map.mp (h.mem_iff.mp hk)
      exact ⟨i, e.symm⟩
    clear h
    induction l with
    | nil => rfl
    | cons k r ih =>
      obtain ⟨i, rfl⟩ := hall k (by simp)
      rw [List.filterMap_cons]
      show Sum.inl i :: r = Sum.inl i :: _
      congr 1
      exact ih fun x hx => hall x (by simp [hx])
  · have q := h.filterMap (fun | .inl i => some i | _ => none : Key → Option Int)
    rw [List.filterMap_map] at q
    have e : (fun | .inl i => some i | _ => none : Key → Option Int) ∘ Sum.inl = some := rfl
    rw [e, List.filterMap_some] at q
    exact q
theorem perm_inr {l : List Key} {L : List Str} (h : l.Perm (L.map Sum.inr)) : ∃ M : List Str, l = M.map Sum.inr ∧ M.Perm L := by
  refine ⟨l.filterMap fun | .inr i => some i | _ => none, ?_, ?_⟩
  · have hall : ∀ k ∈ l, ∃ i, k = Sum.inr i := fun k hk => by
      obtain ⟨i, _, e⟩ := List.mem_map.mp (h.mem_iff.mp hk)
      exact ⟨i, e.symm⟩
    clear h
    induction l with
    | nil => rfl
    | cons k r ih =>
      obtain ⟨i, rfl⟩ := hall k (by simp)
      rw [List.filterMap_cons]
      show Sum.inr i :: r = Sum.inr i :: _
      congr 1
      exact ih fun x hx => hall x (by simp [hx])
  · have q := h.filterMap (fun | .inr i => some i | _ => none : Key → Option Str)
    rw [List.filterMap_map] at q
    have e : (fun | .inr i => some i | _ => none : Key → Option Str) ∘ Sum.inr = some := rfl
    rw [e, List.filterMap_some] at q
    exact q
theorem sorted_inl {l : List Key} {L : List Int} (h : l.Perm (L.map Sum.inl)) : (l.mergeSort leK).map keyD = (L.mergeSort leI).map PyData.int := by
  obtain ⟨M, rfl, hp⟩ := perm_inl h
  rw [leK_D, List.map_map]
  show (M.map PyData.int).mergeSort leD = _
  rw [sort_ints, leI_same hp]
theorem sorted_inr {l : List Key} {L : List Str} (h : l.Perm (L.map Sum.inr)) : (l.mergeSort leK).map keyD = (L.mergeSort leS).map PyData.str := by
  obtain ⟨M, rfl, hp⟩ := perm_inr h
  rw [leK_D, List.map_map]
  show (M.map PyData.str).mergeSort leD = _
  rw [sort_strs, leS_same hp]
theorem alike_inl (L : List Int) : PySem.W.AllAlike ((L.map (Sum.inl : Int → Key)).map keyD) := fun d hd d' hd' => by
  rw [List.map_map] at hd hd'
  obtain ⟨i, _, rfl⟩ := List.mem_map.mp hd
  obtain ⟨j, _, rfl⟩ := List.mem_map.mp hd'
  rfl
theorem alike_inr (L : List Str) : PySem.W.AllAlike ((L.map (Sum.inr : Str → Key)).map keyD) := fun d hd d' hd' => by
  rw [List.map_map] at hd hd'
  obtain ⟨i, _, rfl⟩ := List.mem_map.mp hd
  obtain ⟨j, _, rfl⟩ := List.mem_map.mp hd'
  rfl
theorem alike_ints (L : List Int) : PySem.W.AllAlike (L.map PyData.int) := fun d hd d' hd' => by
  obtain ⟨i, _, rfl⟩ := List.mem_map.mp hd
  obtain ⟨j, _, rfl⟩ := List.mem_map.mp hd'
  rfl
theorem alikeAll_ints : ∀ a b : List Int, PySem.W.alikeAll (a.map PyData.int) (b.map PyData.int) = true
  | [], _ => by simp [PySem.W.alikeAll]
  | _ :: _, [] => by simp [PySem.W.alikeAll]
  | x :: a, y :: b => by
    simp only [List.map_cons, PySem.W.alikeAll, Bool.and_eq_true]
    exact ⟨rfl, alikeAll_ints a b⟩
theorem alike_codes (L : List Str) : PySem.W.AllAlike (L.map codesD) := fun d hd d' hd' => by
  obtain ⟨a, _, rfl⟩ := List.mem_map.mp hd
  obtain ⟨b, _, rfl⟩ := List.mem_map.mp hd'
  have e0 : ∀ z : Str, codesD z = .list ((z.cps.toList.map fun (c : Nat) => (c : Int)).map .int) := fun z => by rw [List.map_map]; rfl
  rw [e0, e0]
  simp only [PySem.W.alike]
  exact alikeAll_ints _ _
theorem sortable_ints (L : List Int) : PySem.W.Sortable (L.map PyData.int) := .inr fun d hd => by
  obtain ⟨i, _, rfl⟩ := List.mem_map.mp hd
  exact ⟨nofun, nofun⟩
theorem sortable_codes (L : List Str) : PySem.W.Sortable (L.map codesD) := .inr fun d hd => by
  obtain ⟨i, _, rfl⟩ := List.mem_map.mp hd
  exact ⟨nofun, nofun⟩
/-! ### what the loops keep -/
theorem intsOf_snoc (xs : List PyData) (d : PyData) : intsOf (xs ++ [d]) = intsOf xs ++ intsOf [d] := List.filterMap_append
theorem strsOf_snoc (xs : List PyData) (d : PyData) : strsOf (xs ++ [d]) = strsOf xs ++ strsOf [d] := List.filterMap_append
theorem uniq_snoc {α : Type} [DecidableEq α] (xs : List α) (x : α) : uniq (xs ++ [x]) = addU (uniq xs) x := by
  unfold uniq
  rw [List.foldl_append]
  rfl
theorem any_ints (L : List Int) (i : Int) : ((L.map PyData.int).any fun z => PyData.eqv z (.int i)) = decide (i ∈ L) := by
  rw [Bool.eq_iff_iff, List.any_eq_true, decide_eq_true_iff]
  constructor
  · rintro ⟨z, hz, e⟩
    obtain ⟨j, hj, rfl⟩ := List.mem_map.mp hz
    simp only [PyData.eqv, beq_iff_eq] at e
    exact e ▸ hj
  · intro h
    exact ⟨.int i, List.mem_map.mpr ⟨i, h, rfl⟩, by simp [PyData.eqv]⟩
theorem codes_eqv (a b : Str) : PyData.eqv (codesD a) (codesD b) = decide (a = b) := by
  unfold codesD
  rw [oct_eqv]
  exact decide_eq_decide.mpr ⟨str_eq, fun h => by rw [h]⟩
theorem any_codes (L : List Str) (z : Str) : ((L.map codesD).any fun y => PyData.eqv y (codesD z)) = decide (z ∈ L) := by
  rw [Bool.eq_iff_iff, List.any_eq_true, decide_eq_true_iff]
  constructor
  · rintro ⟨y, hy, e⟩
    obtain ⟨j, hj, rfl⟩ := List.mem_map.mp hy
    rw [codes_eqv, decide_eq_true_iff] at e
    exact e ▸ hj
  · intro h
    exact ⟨_, List.mem_map.mpr ⟨z, h, rfl⟩, by rw [codes_eqv]; simp⟩
/-- the values that are the text z -/
def isZ (z : Str) : PyData → Bool
  | .str y => decide (y = z)
  | _ => false
theorem pick_z {ds : List PyData} {z : Str} (h : PyData.str z ∈ ds) : atI ((ds.filter (isZ z)).map fun d => d) 0 = some (.str z) := by
  refine atI_get (by decide) ?_
  rw [List.map_id']
  cases e : ds.filter (isZ z) with
  | nil =>
    have := List.filter_eq_nil_iff.mp e _ h
    simp [isZ] at this
  | cons a r =>
    have hm : a ∈ ds.filter (isZ z) := by rw [e]; simp
    have q := (List.mem_filter.mp hm).2
    cases a with
    | str y => simp only [isZ, decide_eq_true_iff] at q; rw [q]; rfl
    | _ => cases q
theorem mem_strs {ds : List PyData} {z : Str} : z ∈ strsOf ds ↔ PyData.str z ∈ ds := by
  unfold strsOf
  rw [List.mem_filterMap]
  constructor
  · rintro ⟨d, hd, e⟩
    cases d <;> first | (cases e; exact hd) | cases e
  · intro h
    exact ⟨_, h, rfl⟩
theorem len_ints (ds : List PyData) : (uniq (intsOf ds)).length ≤ ds.length := by
  have := foldU_len (intsOf ds) []
  have h2 : (intsOf ds).length ≤ ds.length := List.length_filterMap_le _ _
  unfold uniq
  simp only [List.length_nil] at this
  omega
theorem len_strs (ds : List PyData) : (uniq (strsOf ds)).length ≤ ds.length := by
  have := foldU_len (strsOf ds) []
  have h2 : (strsOf ds).length ≤ ds.length := List.length_filterMap_le _ _
  unfold uniq
  simp only [List.length_nil] at this
  omega
theorem v_shaped {d : PyData} (h : isV d) : SeqAt.shaped d = true := by
  rcases h with ⟨i, rfl⟩ | ⟨z, rfl, _, hz⟩
  · exact shaped_mk rfl (Nat.zero_le _)
  · exact shaped_mk (ts_ok hz) (Nat.zero_le _)
theorem vs_shaped {ds : List PyData} (h : ∀ d ∈ ds, isV d) : SeqAt.shaped (.list ds) = true := by
  refine shaped_mk ?_ ?_
  · simp only [PyData.canLay0]
    have := canLayAll_map (f := id) ds fun d hd => by
      have := v_shaped (h d hd)
      simp only [SeqAt.shaped, Bool.and_eq_true] at this
      exact this.1
    simpa using this
  · simp only [PyData.depth]
    have := depthAll_map (f := id) (n := 0) ds fun d hd => by
      rcases h d hd with ⟨i, rfl⟩ | ⟨z, rfl, _⟩ <;> exact Nat.le_refl _
    simp only [List.map_id] at this
    omega
theorem vo_isV {ds : List PyData} (h : ∀ d ∈ ds, isV d) : ∀ d ∈ vo ds, isV d := by
  intro d hd
  unfold vo at hd
  rcases List.mem_append.mp hd with q | q
  · obtain ⟨i, _, rfl⟩ := List.mem_map.mp q
    exact .inl ⟨i, rfl⟩
  · obtain ⟨z, hz, rfl⟩ := List.mem_map.mp q
    rw [List.mem_mergeSort, mem_uniq, mem_strs] at hz
    exact h _ hz
theorem vo_len {ds : List PyData} : (vo ds).length ≤ ds.length + ds.length := by
  unfold vo
  rw [List.length_append, List.length_map, List.length_map, List.length_mergeSort, List.length_mergeSort]
  have := len_ints ds
  have := len_strs ds
  omega
end VO
namespace SM
open PySem PySem.Spec PyProof.Rows L2 DL
/-- sorted(xs), a new list that is owned -/
theorem c_sortDO {X : Cx} {O : Own} {P : DL.W → Own → Prop} {w : DL.W} {ds : List PyData} (r : RdL w O ds) (hal : PySem.W.AllAlike ds) (hk : PySem.W.Sortable ds) (hu : ∀ d ∈ ds, X.A.units + 2 + d.depth < cLine) (h : ∀ p, P (.r (.ref p)) ((p, .l (ds.mergeSort leD)) :: O)) : CallD X (.builtin "sorted") [w] O P :=
  calld_of cr_sortD fun vs Hr H Q hS h1 hQ => by
    cases h1 with
    | cons k1 k2 =>
      cases k2
      obtain ⟨p, us, rfl, e1, a1⟩ := r.at hS k1
      refine ⟨p, us, ds, rfl, e1, DvAll.dp (dvAll_mono hS.ex a1), hal, hk, hu, fun ys p hp hl hn => hQ _ _ ⟨_, _, Hr, h p, Same.refl _, hS.newOwn hn ⟨_, upd_same, dvAll_perm hl fun b hb => dvAll_zip a1 b (hp.mem_iff.mp hb)⟩, rfl⟩⟩
end SM

set_option Elab.async false
set_option linter.all false
set_option maxRecDepth 100000
set_option maxHeartbeats 2000000
/-! sorted(..) of tuples that begin with ints which tell them apart, whatever stands behind -/
namespace SM
open PySem PySem.Spec PyProof.Rows L2 DL PySem.W PySem.Calls
abbrev PB := List Int × List PyData
def encP (b : PB) : PyData := .tuple (b.1.map .int ++ b.2)
abbrev keyP (b : PB) : List (Int ⊕ List Nat) := keyToks (.list (b.1.map .int))
abbrev leP : PB → PB → Bool := sortLe (listOrd itemOrd) false keyP
theorem leP_eq : leP = fun p q => decide (p.1 ≤ q.1) := dataLe_rows (fun b : PB => b.1)
theorem readsAll_pfx {h : Heap} : ∀ (ns ms : List Int) {ts us : List PyData} {vs : List Value} {as as' : List Addr}, ns.length = ms.length → ReadsAll h vs (ns.map .int ++ ts) as → ReadsAll h vs (ms.map .int ++ us) as' → ns = ms
  | [], [], _, _, _, _, _, _, _, _ => rfl
  | n :: ns, m :: ms, _, _, _, _, _, hl, r, r' => by
    cases r with
    | cons h1 h2 =>
      cases r' with
      | cons k1 k2 =>
        have e := readsAll_pfx ns ms (by simpa using hl) h2 k2
        cases h1
        cases k1
        rw [e]
  | [], _ :: _, _, _, _, _, _, hl, _, _ => by simp at hl
  | _ :: _, [], _, _, _, _, _, hl, _, _ => by simp at hl
theorem reads_pfx {h : Heap} {a b : PB} {v : Value} {as as' : List Addr} (hl : a.1.length = b.1.length) (r : Reads h v (encP a) as) (r' : Reads h v (encP b) as') : a.1 = b.1 := by
  unfold encP at r r'
  cases r with
  | @tuple l o xs n _ _ h1 h2 h3 h4 =>
    cases r' with
    | @tuple _ o' ys n' _ _ k1 k2 k3 k4 =>
      rw [h1] at k1
      cases k1
      rw [h3] at k3
      cases k3
      exact readsAll_pfx _ _ hl h4 k4
/-- the kind of keys -/
noncomputable def pfKind (h : Heap) (bs : List PB) : PyProof.Rows.KeyKind where
  toKeyOrd := listOrd itemOrd
  keyOf v := open Classical in if q : ∃ b, b ∈ bs ∧ ∃ as, Reads h v (encP b) as then some (keyP q.choose) else none
  dflt := ([] : List (Int ⊕ List Nat))
theorem pfKind_some {h : Heap} {bs : List PB} {k : Nat} (hk : ∀ b ∈ bs, b.1.length = k) {v : Value} {b : PB} {as : List Addr} (hb : b ∈ bs) (r : Reads h v (encP b) as) : (pfKind h bs).keyOf v = some (keyP b) := by
  have q : ∃ b, b ∈ bs ∧ ∃ as, Reads h v (encP b) as := ⟨b, hb, as, r⟩
  have e : (pfKind h bs).keyOf v = some (keyP q.choose) := by
    show (open Classical in if q : ∃ b, b ∈ bs ∧ ∃ as, Reads h v (encP b) as then some (keyP q.choose) else none) = _
    rw [dif_pos q]
  obtain ⟨h1, as', h2⟩ := q.choose_spec
  have e2 := reads_pfx (by rw [hk _ h1, hk _ hb]) h2 r
  rw [e]
  unfold keyP
  rw [e2]
theorem pfKind_inv {h : Heap} {bs : List PB} {v : Value} {k : List (Int ⊕ List Nat)} (e : (pfKind h bs).keyOf v = some k) : ∃ b as, b ∈ bs ∧ Reads h v (encP b) as ∧ k = keyP b := by
  by_cases q : ∃ b, b ∈ bs ∧ ∃ as, Reads h v (encP b) as
  · have e' : (pfKind h bs).keyOf v = some (keyP q.choose) := by
      show (open Classical in if q : ∃ b, b ∈ bs ∧ ∃ as, Reads h v (encP b) as then some (keyP q.choose) else none) = _
      rw [dif_pos q]
    obtain ⟨h1, as', h2⟩ := q.choose_spec
    rw [e'] at e
    exact ⟨_, as', h1, h2, (Option.some.inj e).symm⟩
  · have e' : (pfKind h bs).keyOf v = none := by
      show (open Classical in if q : ∃ b, b ∈ bs ∧ ∃ as, Reads h v (encP b) as then some (keyP q.choose) else none) = _
      rw [dif_neg q]
      rfl
    rw [e'] at e
    exact absurd e (by simp)
section
variable {prog : Program} {w : World} {A : Around} {s : Shared}
theorem katLex_pfx {b fin : Bool} {Q : Bool → Shared → Prop} : ∀ (ns ms : List Int) {ts us : List PyData} (i : Nat) (vs ws : List Value) {as bs : List Addr}, ns.length = ms.length → ns ≠ ms → ReadsAll s.heap vs (ns.map .int ++ ts) as → ReadsAll s.heap ws (ms.map .int ++ us) bs →
    A.units < cLine → Q (PyProof.Rows.lexLt itemOrd (keyToksAll (ns.map .int)) (keyToksAll (ms.map .int))) s → KatLex prog w A b fin Q (vs.zip ws) i s
  | [], [], _, _, _, _, _, _, _, _, hne, _, _, _, _ => absurd rfl hne
  | n :: ns, m :: ms, _, _, i, _, _, _, _, hl, hne, ra, rb, hu, hq => by
    cases ra with
    | cons r rs =>
      cases rb with
      | cons r' rs' =>
        rw [List.zip_cons_cons]
        have al : alike (.int n) (.int m) = true := rfl
        have hu' : A.units + min (PyData.depth (.int n)) (PyData.depth (.int m)) < cLine := hu
        refine kat_cons (eqAt_alike (.int n) (.int m) A s _ _ _ _ r r' al hu' prog w _ _ ?_)
        cases hx : PyData.eqv (.int n) (.int m) with
        | true =>
          have e : n = m := by simpa [PyData.eqv] using hx
          rw [List.map_cons, List.map_cons, dataLt_all_yes al hx] at hq
          exact kat_yes (katLex_pfx ns ms (i + 1) _ _ (by simpa using hl) (fun q => hne (by rw [e, q])) rs rs' hu hq)
        | false =>
          rw [List.map_cons, List.map_cons, dataLt_all_no al hx] at hq
          exact kat_no (oneLt_alike (fun _ _ h => by cases h) r r' al (fun h => by cases h) hu' hq)
  | [], _ :: _, _, _, _, _, _, _, _, hl, _, _, _, _, _ => by simp at hl
  | _ :: _, [], _, _, _, _, _, _, _, hl, _, _, _, _, _ => by simp at hl
theorem sortsAt_pfx {vs : List Value} {bs : List PB} {k : Nat} (e : EachIs (fun v b => ∃ as, Reads s.heap v (encP b) as) vs bs) (hk : ∀ b ∈ bs, b.1.length = k) (h0 : 0 < k) (nd : (bs.map (·.1)).Nodup) (hal : ∀ b ∈ bs, alike (encP b) (encP b) = true) (hu : ∀ b ∈ bs, A.units + (encP b).depth < cLine) : SortsAt prog w A s (pfKind s.heap bs) vs := by
  refine ⟨fun v hv => ?_, tuples' true, ?_, fun h2 E Q hq => ?_⟩
  · obtain ⟨b, hb, as, r⟩ := e.left v hv
    exact ⟨_, pfKind_some hk hb r⟩
  · intro E x y a b Q ha hb hq
    obtain ⟨d, as, hd, ra, rfl⟩ := pfKind_inv ha
    obtain ⟨d', as', hd', rb, rfl⟩ := pfKind_inv hb
    have hl : d.1.length = d'.1.length := by rw [hk _ hd, hk _ hd']
    have hroom := hu d hd
    have hq' : Q (PyProof.Rows.lexLt itemOrd (keyToksAll (d.1.map .int)) (keyToksAll (d'.1.map .int))) s := by
      have q : Q (PyProof.Rows.lexLt itemOrd (keyP d) (keyP d')) s := hq
      unfold keyP at q
      simpa only [keyToks] using q
    have ra' := ra
    have rb' := rb
    unfold encP at ra' rb'
    cases ra' with
    | @tuple l o xs n _ _ h1 h2 h3 h4 =>
      cases rb' with
      | @tuple l' o' xs' n' _ _ k1 k2 k3 k4 =>
        by_cases hne : d.1 = d'.1
        · have e2 : d = d' := by
            have inj : ∀ {l : List PB} {a b : PB}, (l.map (·.1)).Nodup → a ∈ l → b ∈ l → a.1 = b.1 → a = b := by
              intro l
              induction l with
              | nil => intro a b _ h; cases h
              | cons c l ih =>
                intro a b hn ha hb hab
                rw [List.map_cons, List.nodup_cons] at hn
                rcases List.mem_cons.mp ha with rfl | ha <;> rcases List.mem_cons.mp hb with rfl | hb
                · rfl
                · exact absurd (List.mem_map.mpr ⟨b, hb, hab.symm⟩) hn.1
                · exact absurd (show b.1 ∈ l.map (·.1) from List.mem_map.mpr ⟨a, by assumption, hab⟩) hn.1
                · exact ih hn.2 ha hb hab
            exact inj nd hd hd' hne
          subst e2
          have al : alikeAll (d.1.map .int ++ d.2) (d.1.map .int ++ d.2) = true := by
            have := hal d hd
            unfold encP at this
            simpa [alike] using this
          have n1 : xs.size = (d.1.map PyData.int ++ d.2).length := by simpa using SeqAt.ReadsAll.length _ _ _ h4
          have n2 : xs'.size = (d.1.map PyData.int ++ d.2).length := by simpa using SeqAt.ReadsAll.length _ _ _ k4
          have hd2 : A.units + min (PyData.depthAll (d.1.map PyData.int ++ d.2)) (PyData.depthAll (d.1.map PyData.int ++ d.2)) < cLine := by
            unfold encP at hroom
            simp only [PyData.depth] at hroom
            rw [Nat.min_self]
            omega
          refine kat_lt h1 h3 k1 k3 (katLex_alike _ _ 0 _ _ _ _ h4 k4 al hd2 (fun _ _ x r t ex => ?_) (by rw [n1, n2]) ?_)
          · have hne' : d.1 ≠ [] := fun q => by
              have := hk d hd
              rw [q] at this
              simp at this
              omega
            cases hh : d.1 with
            | nil => exact absurd hh hne'
            | cons z zs =>
              rw [hh, List.map_cons, List.cons_append] at ex
              obtain ⟨rfl, rfl⟩ := List.cons.inj ex
              exact nofun
          · have e1 : PyProof.Rows.lexLt itemOrd (keyToksAll (d.1.map .int ++ d.2)) (keyToksAll (d.1.map .int ++ d.2)) = false := lex_irrefl _
            have e2 : PyProof.Rows.lexLt itemOrd (keyToksAll (d.1.map .int)) (keyToksAll (d.1.map .int)) = false := lex_irrefl _
            rw [e1, ← e2]
            exact hq'
        · exact kat_lt h1 h3 k1 k3 (katLex_pfx _ _ 0 _ _ hl hne h4 k4 (by omega) hq')
  · have ht : ∀ d, d ∈ bs.map encP → ∃ x r, d = .tuple (x :: r) := by
      intro d hd
      obtain ⟨b, hb, rfl⟩ := List.mem_map.mp hd
      unfold encP
      cases hh : b.1 with
      | nil =>
        have := hk b hb
        rw [hh] at this
        simp at this
        omega
      | cons z zs => exact ⟨.int z, _, rfl⟩
    obtain ⟨fs, t1, t2, t3⟩ := each_katTups (each_map (R := fun v d => ∃ as, Reads s.heap v d as) encP e) ht
    refine kat_kind (T := Value.type "int") t1 (by omega) (fun f hf => ?_) (by decide) hq
    obtain ⟨x, r, as, m1, m2⟩ := t3 f hf
    obtain ⟨b, hb, eb⟩ := List.mem_map.mp m1
    have : ∃ i, x = .int i := by
      unfold encP at eb
      cases hh : b.1 with
      | nil =>
        have := hk b hb
        rw [hh] at this
        simp at this
        omega
      | cons z zs =>
        rw [hh] at eb
        exact ⟨z, (List.cons.inj (PyData.tuple.inj eb)).1.symm⟩
    obtain ⟨i, rfl⟩ := this
    exact looks_reads m2
end
theorem each_zipG {β : Type} {R : Value → V → Prop} : ∀ {its : List Value} {xs : List V} {ds : List β}, Paired (fun x u => R u x) xs its → xs.length = ds.length → PySem.W.EachIs (fun v (b : V × β) => R v b.1) its (xs.zip ds)
  | [], [], [], .nil, _ => .nil
  | _ :: _, _ :: _, _ :: _, .cons q t, h => .cons q (each_zipG t (by simpa using h))
  | _ :: _, _ :: _, [], .cons _ _, h => by simp at h
theorem vals_outG {β : Type} : ∀ {out : List Value} {bs : List (V × β)}, PySem.W.EachIs (fun v (b : V × β) => RelV b.1 v) out bs → Vals (bs.map (·.1)) out
  | [], [], .nil => .nil
  | _ :: _, _ :: _, .cons q t => .cons q (vals_outG t)
theorem zip_mapsG {β : Type} : ∀ bs : List (V × β), (bs.map (·.1)).zip (bs.map (·.2)) = bs
  | [] => rfl
  | b :: bs => by rw [List.map_cons, List.map_cons, List.zip_cons_cons, zip_mapsG bs]
section
variable {X : Cx}
theorem cr_sortP : CallR X (.builtin "sorted") (fun vs H Q => ∃ (a : Addr) (xs : List V) (bs : List PB) (k : Nat), vs = [V.ref a] ∧ H a = some (.lst xs) ∧ DpAll X.K H xs (bs.map encP) ∧ (∀ b ∈ bs, b.1.length = k) ∧ 0 < k ∧ (bs.map (·.1)).Nodup ∧ (∀ b ∈ bs, alike (encP b) (encP b) = true) ∧ (∀ b ∈ bs, X.A.units + 2 + (encP b).depth < cLine) ∧
    ∀ (ys : List V) (p : Addr), (ys.zip (bs.mergeSort leP)).Perm (xs.zip bs) → ys.length = (bs.mergeSort leP).length → H p = none → Q (.ref p) (upd H p (.lst ys))) := by
  intro pins s σ H vs us Q I r h
  obtain ⟨a, xs, bs, k, rfl, ha, hd, hk, h0, nd, hal, hu, q⟩ := h
  rw [Vals.ref1 r]
  obtain ⟨hz, its, n, rv, ho⟩ := (show ObjOk X.prog X.w H s.heap a (.lst xs) from I.hok a _ ha)
  have hl : xs.length = bs.length := by rw [dpAll_len hd, List.length_map]
  have hbl : (xs.zip bs).length = xs.length := by rw [List.length_zip, hl]; omega
  have e2 : (xs.zip bs).map (fun b => b.2) = bs := List.map_snd_zip (by omega)
  have em : ((xs.zip bs).mergeSort (sortLe (listOrd itemOrd) false fun b : V × PB => keyP b.2)).map (fun b => b.2) = bs.mergeSort leP := by
    have q := PySem.W.sort_maps (r := sortLe (listOrd itemOrd) false fun b : V × PB => keyP b.2) (s := leP) (fun b : V × PB => b.2) (l := xs.zip bs) (fun _ _ _ _ => rfl)
    rw [e2] at q
    exact q
  have er : EachIs (fun v b => ∃ as, Reads s.heap v (encP b) as) its bs := by
    have er0 := each_reads I rv hd
    have z : ∀ {its : List Value} {xs : List V} {bs : List PB}, xs.length = bs.length → EachIs (fun v (b : V × PyData) => ∃ as, Reads s.heap v b.2 as) its (xs.zip (bs.map encP)) → EachIs (fun v b => ∃ as, Reads s.heap v (encP b) as) its bs := by
      intro its xs
      induction xs generalizing its with
      | nil =>
        intro bs hl h
        cases bs with
        | nil => cases h; exact .nil
        | cons b bs => simp at hl
      | cons x xs ih =>
        intro bs hl h
        cases bs with
        | nil => simp at hl
        | cons b bs =>
          cases h with
          | cons h1 h2 => exact .cons h1 (ih (by simpa using hl) h2)
    exact z hl er0
  have er' : EachIs (fun v b => ∃ as, Reads (sortingHeap (copyHeap s.heap its) (s.heap.objs.size + 1) its) v (encP b) as) its bs := er.mono fun _ _ ⟨as, r⟩ => ⟨as, PyProof.Rows.Reads.keeps (fun _ _ => sorting_copy_old) r⟩
  have ekey : EachIs (fun v (b : V × PB) => (pfKind (sortingHeap (copyHeap s.heap its) (s.heap.objs.size + 1) its) bs).keyOf v = some (keyP b.2)) its (xs.zip bs) := by
    have hil : its.length = bs.length := er'.length
    generalize sortingHeap (copyHeap s.heap its) (s.heap.objs.size + 1) its = hh at er'
    have z : ∀ {its : List Value} {xs : List V} {cs : List PB}, xs.length = cs.length → (∀ c ∈ cs, c ∈ bs) → EachIs (fun v b => ∃ as, Reads hh v (encP b) as) its cs → EachIs (fun v (b : V × PB) => (pfKind hh bs).keyOf v = some (keyP b.2)) its (xs.zip cs) := by
      intro its xs
      induction xs generalizing its with
      | nil =>
        intro cs hl _ h
        cases cs with
        | nil => cases h; exact .nil
        | cons b bs => simp at hl
      | cons x xs ih =>
        intro cs hl hm h
        cases cs with
        | nil => simp at hl
        | cons c cs =>
          cases h with
          | cons h1 h2 =>
            obtain ⟨as, h1⟩ := h1
            exact .cons (pfKind_some hk (hm c (by simp)) h1) (ih (by simpa using hl) (fun c hc => hm c (by simp [hc])) h2)
    exact z hl (fun _ h => h) er'
  have eR := each_zipG (R := fun v b => RelV b v) rv hl
  have eo := sortVals_each (κ := pfKind (sortingHeap (copyHeap s.heap its) (s.heap.objs.size + 1) its) bs) (rev := false) (fun b : V × PB => keyP b.2) eR ekey
  refine sorted_vals (vs := its) (κ := pfKind (sortingHeap (copyHeap s.heap its) (s.heap.objs.size + 1) its) bs) ⟨_, ho, rfl, n, rfl⟩ (sortsAt_pfx (s := { s with heap := sortingHeap (copyHeap s.heap its) (s.heap.objs.size + 1) its }) er' hk h0 nd hal (fun b hb => hu b hb)) (by rw [er.length, ← hl]; exact hz) ?_
  generalize hout : sortVals (pfKind (sortingHeap (copyHeap s.heap its) (s.heap.objs.size + 1) its) bs) false its its = out at eo
  have eo' : EachIs (fun v (b : V × PB) => RelV b.1 v) out ((xs.zip bs).mergeSort (sortLe (listOrd itemOrd) false fun b : V × PB => keyP b.2)) := eo
  obtain ⟨c, hc⟩ := sortedAll_at s.heap its out.toArray
  have hp := vals_outG eo'
  have hyl : (((xs.zip bs).mergeSort (sortLe (listOrd itemOrd) false fun b : V × PB => keyP b.2)).map (·.1)).length ≤ sizeLine := by
    rw [List.length_map, List.length_mergeSort, hbl]
    exact hz
  refine ⟨.ref _, _, I.laid (t' := s.toks) (o := .lst (((xs.zip bs).mergeSort (sortLe (listOrd itemOrd) false fun b : V × PB => keyP b.2)).map (·.1))) (fun b o x => sortedAll_old x) (Nat.le_succ _) ⟨hyl, out, c, hp, hc⟩, rfl, ?_⟩
  refine q _ _ ?_ ?_ (I.hok.fresh (Nat.le_succ _))
  · rw [← em, zip_mapsG]
    exact List.mergeSort_perm _ _
  · rw [← em, List.length_map, List.length_map]
end
section
variable {X : Cx} {O : Own} {P : DL.W → Own → Prop} {w : DL.W}
theorem dvAll_permP {K : PySem.W.Frag} {H : Hp} : ∀ {ys : List V} {es : List PB}, ys.length = es.length → (∀ b ∈ ys.zip es, Dv K H b.1 (encP b.2)) → DvAll K H ys (es.map encP)
  | [], [], _, _ => .nil
  | y :: ys, e :: es, h, g => .cons (g (y, e) (by simp)) (dvAll_permP (by simpa using h) fun b hb => g b (by simp [hb]))
  | [], _ :: _, h, _ => by simp at h
  | _ :: _, [], h, _ => by simp at h
theorem dvAll_zipP {K : PySem.W.Frag} {H : Hp} : ∀ {ys : List V} {es : List PB}, DvAll K H ys (es.map encP) → ∀ b ∈ ys.zip es, Dv K H b.1 (encP b.2)
  | [], _, _, b, hb => by simp at hb
  | _ :: _, [], _, b, hb => by simp at hb
  | y :: ys, e :: es, h, b, hb => by
    cases h with
    | cons a t =>
      rw [List.zip_cons_cons] at hb
      rcases List.mem_cons.mp hb with rfl | hb
      · exact a
      · exact dvAll_zipP t b hb
/-- sorted(xs), tuples told apart by the ints that they begin with -/
theorem c_sortP {bs : List PB} {k : Nat} (r : RdL w O (bs.map encP)) (hk : ∀ b ∈ bs, b.1.length = k) (h0 : 0 < k) (nd : (bs.map (·.1)).Nodup) (hal : ∀ b ∈ bs, alike (encP b) (encP b) = true) (hu : ∀ b ∈ bs, X.A.units + 2 + (encP b).depth < cLine) (h : P (.d (.list ((bs.mergeSort leP).map encP))) O) : CallD X (.builtin "sorted") [w] O P :=
  calld_of cr_sortP fun vs Hr H Q hS h1 hQ => by
    cases h1 with
    | cons k1 k2 =>
      cases k2
      obtain ⟨p, us, rfl, e1, a1⟩ := r.at hS k1
      refine ⟨p, us, bs, k, rfl, e1, DvAll.dp (dvAll_mono hS.ex a1), hk, h0, nd, hal, hu, fun ys p hp hl hn => hQ _ _ (po_new h hS hn ?_)⟩
      exact .lst upd_same (dvAll_mono (same_new (hS.fresh hn).1) (dvAll_permP hl fun b hb => dvAll_zipP a1 b (hp.mem_iff.mp hb)))
end
end SM

set_option Elab.async false
set_option linter.all false
set_option maxRecDepth 100000
set_option maxHeartbeats 2000000
/-! events, worlds of writers -/
namespace WL
open PySem PySem.Spec PyProof.Rows L2 DL SX PK SM VO
/-- what an event does -/
inductive Op where
  | set (k : Str) (v : PyData)
  | inc (k : Str) (i : Int)
  | add (k : Str) (v : PyData)
  | remove (k : Str) (v : PyData)
  | insert (k : Str) (at_ : Option (Int × Int)) (s : Str)
  | erase (k : Str) (at_ : Int × Int)
  | ack (w : Int)
  | retire
def dotD (p : Int × Int) : PyData := .tuple [.int p.1, .int p.2]
def placeD : Option (Int × Int) → PyData
  | none => .none
  | some p => dotD p
def opD : Op → PyData
  | .set k v => .tuple [.str "set", .str k, v]
  | .inc k i => .tuple [.str "inc", .str k, .int i]
  | .add k v => .tuple [.str "add", .str k, v]
  | .remove k v => .tuple [.str "remove", .str k, v]
  | .insert k p s => .tuple [.str "insert", .str k, placeD p, .str s]
  | .erase k p => .tuple [.str "erase", .str k, dotD p]
  | .ack w => .tuple [.str "ack", .tuple [.int w]]
  | .retire => .tuple [.str "retire", .int 7, .tuple []]
structure Ev where
  site : Int
  n : Int
  seen : List Int
  height : Int
  op : Op
def evD (e : Ev) : PyData := .tuple [.int e.site, .int e.n, vec e.seen, .int e.height, opD e.op]
def Ev.dot (e : Ev) : Int × Int := (e.site, e.n)
/-- a vector that can be read: an owned list, a list, a tuple -/
def RdX (w : DL.W) (O : Own) (ns : List Int) : Prop := RdL w O (ns.map .int) ∨ w = .d (vec ns)
theorem RdL.cons {w : DL.W} {O : Own} {ds : List PyData} (x : Addr × Cell) (h : RdL w O ds) : RdL w (x :: O) ds := by
  rcases h with rfl | ⟨p, j, rfl, hj⟩
  · exact .inl rfl
  · exact .inr ⟨p, j + 1, rfl, hj⟩
theorem RdX.cons {w : DL.W} {O : Own} {ns : List Int} (x : Addr × Cell) (h : RdX w O ns) : RdX w (x :: O) ns := h.elim (fun q => .inl (RdL.cons x q)) .inr
def atN (ns : List Int) (i : Int) : Int := ns.getD i.toNat 0
theorem atI_ints {ns : List Int} {i : Int} (h0 : 0 ≤ i) (h1 : i < ns.length) : atI (ns.map PyData.int) i = some (.int (atN ns i)) := by
  have h2 : i.toNat < ns.length := by omega
  refine atI_get h0 ?_
  rw [List.getElem?_map]
  unfold atN
  rw [List.getD_eq_getElem?_getD, List.getElem?_eq_getElem h2]
  rfl
theorem ix_x {X : Cx} {w : DL.W} {O : Own} {P : DL.W → Own → Prop} {ns : List Int} {i : Int} (r : RdX w O ns) (h0 : 0 ≤ i) (h1 : i < ns.length) (h : P (.d (.int (atN ns i))) O) : IxD X w (.d (.int i)) O P := by
  rcases r with r | rfl
  · exact ix_l r (atI_ints h0 h1) h
  · exact ix_t (atI_ints h0 h1) h
def hasN (ns : List Int) (i n : Int) : Bool := decide (n ≤ atN ns i)
def hasD (ns : List Int) : PyData → Bool
  | .tuple (.int i :: .int n :: _) => hasN ns i n
  | _ => false
def hasE (ns : List Int) (e : Ev) : Bool := hasN ns e.site e.n
theorem hasD_ev (ns : List Int) (e : Ev) : hasD ns (evD e) = hasE ns e := rfl
theorem filter_ev (p : PyData → Bool) (es : List Ev) : (es.map evD).filter p = (es.filter fun e => p (evD e)).map evD := by
  rw [List.filter_map]
  rfl
def joinN (a b : List Int) : List Int := List.zipWith max a b
def tOk (z : Str) : Prop := z.length ≤ 1000 ∧ z.cps.toList.all inTS = true
def OpOk : Op → Prop
  | .set k v => tOk k ∧ isV v
  | .inc k _ => tOk k
  | .add k v => tOk k ∧ isV v
  | .remove k v => tOk k ∧ isV v
  | .insert k _ s => tOk k ∧ tOk s
  | .erase k _ => tOk k
  | .ack _ => True
  | .retire => True
def EvOk (e : Ev) : Prop := 0 ≤ e.site ∧ e.site < 8 ∧ 1 ≤ e.n ∧ e.seen.length = 8 ∧ OpOk e.op
/-- an operation of the kind wd on the key -/
def isOp (wd key : Str) : Op → Bool
  | .set k _ => decide ("set" = wd) && decide (k = key)
  | .inc k _ => decide ("inc" = wd) && decide (k = key)
  | .add k _ => decide ("add" = wd) && decide (k = key)
  | .remove k _ => decide ("remove" = wd) && decide (k = key)
  | .insert k _ _ => decide ("insert" = wd) && decide (k = key)
  | .erase k _ => decide ("erase" = wd) && decide (k = key)
  | .ack _ => false
  | .retire => false
def isOpD (wd key : Str) : PyData → Bool
  | .tuple [_, _, _, _, .tuple (.str x :: .str k :: _)] => decide (x = wd) && decide (k = key)
  | _ => false
theorem isOpD_ev {wd key : Str} (e : Ev) : isOpD wd key (evD e) = isOp wd key e.op := by
  cases h : e.op <;> simp [evD, h, opD, isOpD, isOp]
theorem alike_v {v : PyData} (h : isV v) : PySem.W.alike v v = true := by
  rcases h with ⟨i, rfl⟩ | ⟨z, rfl, _⟩ <;> rfl
theorem alike_op {o : Op} (h : OpOk o) : PySem.W.alike (opD o) (opD o) = true := by
  cases o with
  | set k v => simp [opD, PySem.W.alike, PySem.W.alikeAll, alike_v h.2]
  | add k v => simp [opD, PySem.W.alike, PySem.W.alikeAll, alike_v h.2]
  | remove k v => simp [opD, PySem.W.alike, PySem.W.alikeAll, alike_v h.2]
  | insert k p s => cases p <;> simp [opD, placeD, dotD, PySem.W.alike, PySem.W.alikeAll]
  | inc k i => simp [opD, PySem.W.alike, PySem.W.alikeAll]
  | erase k p => simp [opD, dotD, PySem.W.alike, PySem.W.alikeAll]
  | ack w => simp [opD, PySem.W.alike, PySem.W.alikeAll]
  | retire => simp [opD, PySem.W.alike, PySem.W.alikeAll]
theorem alike_ev {e : Ev} (h : EvOk e) : PySem.W.alike (evD e) (evD e) = true := by
  have h2 := PySem.W.alike_ints e.seen e.seen
  have h3 := alike_op h.2.2.2.2
  simp [evD, PySem.W.alike, PySem.W.alikeAll, h2, h3]
theorem depth_v {v : PyData} (h : isV v) : v.depth = 0 := by
  rcases h with ⟨i, rfl⟩ | ⟨z, rfl, _⟩ <;> rfl
theorem depth_op {o : Op} (h : OpOk o) : (opD o).depth ≤ 2 := by
  cases o with
  | set k v => simp [opD, PyData.depth, PyData.depthAll, depth_v h.2]
  | add k v => simp [opD, PyData.depth, PyData.depthAll, depth_v h.2]
  | remove k v => simp [opD, PyData.depth, PyData.depthAll, depth_v h.2]
  | insert k p s => cases p <;> simp [opD, placeD, dotD, PyData.depth, PyData.depthAll]
  | inc k i => simp [opD, PyData.depth, PyData.depthAll]
  | erase k p => simp [opD, dotD, PyData.depth, PyData.depthAll]
  | ack w => simp [opD, PyData.depth, PyData.depthAll]
  | retire => simp [opD, PyData.depth, PyData.depthAll]
theorem depth_ev {e : Ev} (h : EvOk e) : (evD e).depth ≤ 3 := by
  have h2 := PySem.W.depth_ints e.seen
  have h3 := depth_op h.2.2.2.2
  simp [evD, PyData.depth, PyData.depthAll, h2]
  omega
/-! ### the line, as the laws make it -/
def hrow (e : Ev) : PB := ([e.height, e.site, e.n], [evD e])
def leH (a b : Ev) : Bool := decide ([a.height, a.site, a.n] ≤ [b.height, b.site, b.n])
def rowsE (es : List Ev) (wd key : Str) : List Ev := es.filter fun e => isOp wd key e.op
def insRow (line : List Ev) (e : Ev) : List Ev :=
  match e.op with
  | .insert _ none _ => e :: line
  | .insert _ (some p) _ => if p ∈ line.map Ev.dot then line.take ((line.map Ev.dot).idxOf p + 1) ++ [e] ++ line.drop ((line.map Ev.dot).idxOf p + 1) else line
  | _ => line
def lineE (es : List Ev) (key : Str) : List Ev := ((rowsE es "insert" key).mergeSort leH).foldl insRow []
theorem sort_hrow (es : List Ev) : (es.map hrow).mergeSort leP = (es.mergeSort leH).map hrow := by
  refine (PySem.W.sort_maps (r := leH) (s := leP) hrow fun a _ b _ => ?_).symm
  rw [leP_eq]
  rfl
theorem insRow_mem {line : List Ev} {e x : Ev} (h : x ∈ insRow line e) : x = e ∨ x ∈ line := by
  unfold insRow at h
  split at h
  · exact List.mem_cons.mp h
  · split at h
    · rw [List.mem_append, List.mem_append, List.mem_singleton] at h
      rcases h with (h | h) | h
      · exact .inr (List.mem_of_mem_take h)
      · exact .inl h
      · exact .inr (List.mem_of_mem_drop h)
    · exact .inr h
  · exact .inr h
theorem foldIns_mem {x : Ev} : ∀ (rows line : List Ev), x ∈ rows.foldl insRow line → x ∈ rows ∨ x ∈ line
  | [], _, h => .inr h
  | r :: rows, line, h => by
    rcases foldIns_mem rows _ h with q | q
    · exact .inl (List.mem_cons_of_mem _ q)
    · rcases insRow_mem q with rfl | q
      · exact .inl List.mem_cons_self
      · exact .inr q
theorem lineE_mem {es : List Ev} {key : Str} {x : Ev} (h : x ∈ lineE es key) : x ∈ es ∧ isOp "insert" key x.op = true := by
  rcases foldIns_mem _ _ h with q | q
  · rw [List.mem_mergeSort] at q
    exact ⟨(List.mem_filter.mp q).1, by simpa using (List.mem_filter.mp q).2⟩
  · cases q
theorem insRow_len {line : List Ev} {e : Ev} : (insRow line e).length ≤ line.length + 1 := by
  unfold insRow
  split
  · simp
  · split
    · simp only [List.length_append, List.length_take, List.length_drop, List.length_cons, List.length_nil]
      omega
    · omega
  · omega
theorem foldIns_len : ∀ (rows line : List Ev), (rows.foldl insRow line).length ≤ line.length + rows.length
  | [], _ => Nat.le_refl _
  | r :: rows, line => by
    have h1 := foldIns_len rows (insRow line r)
    have h2 := insRow_len (line := line) (e := r)
    simp only [List.foldl_cons, List.length_cons]
    omega
theorem isIns {key : Str} {o : Op} (h : isOp "insert" key o = true) : ∃ pl sg, o = .insert key pl sg := by
  cases o with
  | insert k pl sg =>
    simp only [isOp, Bool.and_eq_true, decide_eq_true_iff] at h
    exact ⟨pl, sg, by rw [h.2]⟩
  | ack => simp [isOp] at h
  | retire => simp [isOp] at h
  | _ =>
    simp only [isOp, Bool.and_eq_true, decide_eq_true_iff] at h
    exact absurd h.1 (by decide)
theorem idx_at {p : Int × Int} : ∀ {l : List (Int × Int)}, p ∈ l → l[l.idxOf p]? = some p
  | a :: l, h => by
    rw [List.idxOf_cons]
    by_cases e : a = p
    · subst e
      simp
    · have h2 : p ∈ l := (List.mem_cons.mp h).resolve_left (fun q => e q.symm)
      have e2 : (a == p) = false := by simpa using e
      rw [e2]
      simpa using idx_at h2
theorem idx_no {p : Int × Int} : ∀ {l : List (Int × Int)} {m : Nat}, m < l.idxOf p → l[m]? ≠ some p
  | [], m, h => by simp at h
  | a :: l, m, h => by
    rw [List.idxOf_cons] at h
    by_cases e : a = p
    · subst e
      simp at h
    · have e2 : (a == p) = false := by simpa using e
      rw [e2] at h
      simp only [cond_false] at h
      cases m with
      | zero => simpa using e
      | succ m =>
        rw [List.getElem?_cons_succ]
        exact idx_no (by omega)
def opArg : PyData → PyData
  | .tuple [_, _, _, _, .tuple (_ :: _ :: v :: _)] => v
  | _ => .none
def eraP (key : Str) (e : Ev) : Option (Int × Int) := match e.op with
  | .erase k p => if k = key then some p else none
  | _ => none
def erasedE (es : List Ev) (key : Str) : List (Int × Int) := es.filterMap (eraP key)
theorem isEra {key : Str} {o : Op} (h : isOp "erase" key o = true) : ∃ p, o = .erase key p := by
  cases o with
  | erase k p =>
    simp only [isOp, Bool.and_eq_true, decide_eq_true_iff] at h
    exact ⟨p, by rw [h.2]⟩
  | ack => simp [isOp] at h
  | retire => simp [isOp] at h
  | _ =>
    simp only [isOp, Bool.and_eq_true, decide_eq_true_iff] at h
    exact absurd h.1 (by decide)
theorem eraP_no {key : Str} {e : Ev} (h : ¬ isOp "erase" key e.op = true) : eraP key e = none := by
  unfold eraP
  cases ho : e.op with
  | erase k p =>
    rw [ho] at h
    have : ¬ k = key := by simpa [isOp] using h
    simp [this]
  | _ => rfl
theorem erased_eq (key : Str) : ∀ es : List Ev, ((es.filter fun e => isOp "erase" key e.op).map evD).map opArg = (erasedE es key).map dotD
  | [] => rfl
  | e :: es => by
    have ih := erased_eq key es
    unfold erasedE at ih ⊢
    rw [List.filter_cons, List.filterMap_cons]
    by_cases h : isOp "erase" key e.op = true
    · obtain ⟨p, hp⟩ := isEra h
      rw [if_pos h, List.map_cons, List.map_cons, ih]
      have e1 : eraP key e = some p := by unfold eraP; rw [hp]; simp
      have e2 : opArg (evD e) = dotD p := by unfold evD; rw [hp]; rfl
      rw [e1, e2]
      rfl
    · rw [if_neg h, ih, eraP_no h]
def shownE (es : List Ev) (key : Str) : List Ev := (lineE es key).filter fun e => decide (e.dot ∉ erasedE es key)
theorem shownE_mem {es : List Ev} {key : Str} {x : Ev} (h : x ∈ shownE es key) : x ∈ lineE es key ∧ x.dot ∉ erasedE es key := by
  unfold shownE at h
  rw [List.mem_filter] at h
  exact ⟨h.1, by simpa using h.2⟩
theorem lineE_len {es : List Ev} {key : Str} : (lineE es key).length ≤ es.length := by
  unfold lineE
  have h1 := foldIns_len ((rowsE es "insert" key).mergeSort leH) []
  have h2 : ((rowsE es "insert" key).mergeSort leH).length = (rowsE es "insert" key).length := List.length_mergeSort ..
  have h3 : (rowsE es "insert" key).length ≤ es.length := List.length_filter_le _ _
  simp only [List.length_nil] at h1
  omega
def outD (l : List (Int × Int)) : PyData → Bool
  | .tuple (.int a :: .int b :: _) => decide ((a, b) ∉ l)
  | _ => false
theorem outD_ev {l : List (Int × Int)} (e : Ev) : outD l (evD e) = decide (e.dot ∉ l) := rfl
/-! ### the world: a dict of the list of events and the list of vectors -/
structure Wd where
  pw : Addr
  pe : Addr
  pv : Addr
  ps : List Addr
  es : List Ev
  vs : List (List Int)
abbrev kEv : Key := .inr "events"
abbrev kVe : Key := .inr "vectors"
def vcells (ps : List Addr) (vs : List (List Int)) : Own := List.zipWith (fun p v => (p, Cell.l (v.map .int))) ps vs
def wcells (S : Wd) : Own := (S.pw, .o (.dK [(kEv, .ref S.pe), (kVe, .ref S.pv)])) :: (S.pe, .l (S.es.map evD)) :: (S.pv, .o (.lst (S.ps.map V.ref))) :: vcells S.ps S.vs
def zero8 : List Int := List.replicate 8 0
theorem vcells_zero (ps : List Addr) : vcells ps (List.replicate ps.length zero8) = ps.map fun p => (p, Cell.l (zero8.map .int)) := by
  induction ps with
  | nil => rfl
  | cons p ps ih =>
    rw [List.length_cons, List.replicate_succ]
    unfold vcells at ih ⊢
    rw [List.zipWith_cons_cons, ih]
    rfl
theorem Room.u1 {k : Nat} {A : Around} (h : Room k A) : A.units + 1 < cLine := by have := DL.Room.u65 h; omega
theorem key_ne : ¬ kEv = kVe := by decide
theorem val_ev (a b : V) : valV [(kEv, a), (kVe, b)] kEv = some a := by simp [valV]
theorem val_ve (a b : V) : valV [(kEv, a), (kVe, b)] kVe = some b := by
  have h : decide (("events" : Str) = "vectors") = false := by decide
  simp [valV, List.find?_cons, h]
theorem w_at0 (A B : Own) (S : Wd) : (A ++ (wcells S ++ B))[A.length]? = some (S.pw, .o (.dK [(kEv, .ref S.pe), (kVe, .ref S.pv)])) := by simp [wcells]
theorem w_at1 (A B : Own) (S : Wd) : (A ++ (wcells S ++ B))[A.length + 1]? = some (S.pe, .l (S.es.map evD)) := by simp [wcells]
theorem w_at2 (A B : Own) (S : Wd) : (A ++ (wcells S ++ B))[A.length + 2]? = some (S.pv, .o (.lst (S.ps.map V.ref))) := by simp [wcells]
theorem w_at3 (A B : Own) (S : Wd) {i : Nat} {p : Addr} {v : List Int} (hp : S.ps[i]? = some p) (hv : S.vs[i]? = some v) : (A ++ (wcells S ++ B))[A.length + (i + 3)]? = some (p, .l (v.map .int)) := by
  rw [List.getElem?_append_right (by omega), show A.length + (i + 3) - A.length = i + 3 by omega]
  have h1 : i < (vcells S.ps S.vs).length := by
    unfold vcells
    rw [List.length_zipWith]
    have a := (List.getElem?_eq_some_iff.mp hp).1
    have b := (List.getElem?_eq_some_iff.mp hv).1
    omega
  unfold wcells
  rw [List.cons_append, List.cons_append, List.cons_append, List.getElem?_cons_succ, List.getElem?_cons_succ, List.getElem?_cons_succ, List.getElem?_append_left h1]
  unfold vcells
  rw [List.getElem?_zipWith, hp, hv]
theorem w_set1 (A B : Own) (S : Wd) (es : List Ev) : (A ++ (wcells S ++ B)).set (A.length + 1) (S.pe, .l (es.map evD)) = A ++ (wcells { S with es := es } ++ B) := by simp [wcells, List.set_append]
theorem zip_set {α β γ : Type} (f : α → β → γ) : ∀ (as : List α) (bs : List β) (i : Nat) {a : α} {b : β}, as[i]? = some a → (List.zipWith f as bs).set i (f a b) = List.zipWith f as (bs.set i b)
  | [], _, _, _, _, h => by simp at h
  | x :: as, [], i, a, b, h => by simp
  | x :: as, y :: bs, 0, a, b, h => by
    simp at h
    subst h
    rfl
  | x :: as, y :: bs, i + 1, a, b, h => by
    rw [List.zipWith_cons_cons, List.set_cons_succ, List.set_cons_succ, List.zipWith_cons_cons, zip_set f as bs i (by simpa using h)]
theorem w_set3 (A B : Own) (S : Wd) {i : Nat} {p : Addr} {v : List Int} (hp : S.ps[i]? = some p) (hv : i < S.vs.length) : (A ++ (wcells S ++ B)).set (A.length + (i + 3)) (p, .l (v.map .int)) = A ++ (wcells { S with vs := S.vs.set i v } ++ B) := by
  have h1 : i < (vcells S.ps S.vs).length := by
    unfold vcells
    rw [List.length_zipWith]
    have a := (List.getElem?_eq_some_iff.mp hp).1
    omega
  have e1 : ∀ (X Y : Own) (k : Nat) (z : Addr × Cell), (X ++ Y).set (X.length + k) z = X ++ Y.set k z := fun X Y k z => by simp [List.set_append]
  have e2 : ∀ (X Y : Own) (k : Nat) (z : Addr × Cell), k < X.length → (X ++ Y).set k z = X.set k z ++ Y := fun X Y k z h => by simp [List.set_append, h]
  rw [e1]
  unfold wcells
  rw [List.cons_append, List.cons_append, List.cons_append, List.set_cons_succ, List.set_cons_succ, List.set_cons_succ, e2 _ _ _ _ h1]
  unfold vcells
  rw [zip_set (fun p v => (p, Cell.l (v.map PyData.int))) S.ps S.vs i hp]
  rfl
/-- m is the greatest of 0 and the heights -/
def IsTop (es : List Ev) (m : Int) : Prop := m ∈ (0 :: es.map Ev.height) ∧ ∀ y ∈ (0 :: es.map Ev.height), y ≤ m
def newE (i : Nat) (v : List Int) (m : Int) (o : Op) : Ev := ⟨i, atN v i + 1, v, 1 + m, o⟩
def Wd.write (S : Wd) (i : Nat) (v : List Int) (m : Int) (o : Op) : Wd := { S with es := S.es ++ [newE i v m o], vs := S.vs.set i (v.set i (atN v i + 1)) }
def heightOf : PyData → PyData
  | .tuple (_ :: _ :: _ :: h :: _) => h
  | _ => .none
/-- what is asked of a world when it is read -/
structure WdR (S : Wd) : Prop where
  len : S.ps.length = S.vs.length
  vec : ∀ v ∈ S.vs, v.length = 8
  few : S.ps.length ≤ 4
  evs : ∀ e ∈ S.es, EvOk e
  nd : (S.es.map Ev.dot).Nodup
  num : S.es.length ≤ 900
theorem WdR.at {S : Wd} (h : WdR S) {i : Nat} (hi : i < S.ps.length) : ∃ p v, S.ps[i]? = some p ∧ S.vs[i]? = some v ∧ v.length = 8 := by
  have h2 : i < S.vs.length := by rw [← h.len]; exact hi
  exact ⟨S.ps[i], S.vs[i], List.getElem?_eq_getElem hi, List.getElem?_eq_getElem h2, h.vec _ (List.getElem_mem h2)⟩
def raiseN (x : List Int) (i n : Int) : List Int := x.set i.toNat (max (atN x i) n)
/-- the vector v' that the i-th one becomes when it hears of another one -/
def Heard (S : Wd) (i : Nat) (v' : List Int) : Prop := ∃ v u, S.vs[i]? = some v ∧ u ∈ S.vs ∧ (v' = joinN v u ∨ ∃ e ∈ S.es, hasE u e = true ∧ v' = raiseN (joinN v e.seen) e.site e.n)
def Wd.put (S : Wd) (i : Nat) (p : Addr) (v : List Int) : Wd := { S with ps := S.ps.set i p, vs := S.vs.set i v }
theorem joinN_len {a b : List Int} (h1 : a.length = 8) (h2 : b.length = 8) : (joinN a b).length = 8 := by
  unfold joinN
  rw [List.length_zipWith, h1, h2]
  rfl
theorem zip_set2 {α β γ : Type} (f : α → β → γ) : ∀ (as : List α) (bs : List β) (i : Nat) (a : α) (b : β), (List.zipWith f as bs).set i (f a b) = List.zipWith f (as.set i a) (bs.set i b)
  | [], _, _, _, _ => by simp
  | x :: as, [], i, a, b => by cases i <;> simp
  | x :: as, y :: bs, 0, a, b => rfl
  | x :: as, y :: bs, i + 1, a, b => by
    rw [List.zipWith_cons_cons, List.set_cons_succ, List.set_cons_succ, List.set_cons_succ, List.zipWith_cons_cons, zip_set2 f as bs i]
/-- the world laid anew: the new vector takes the place of the old one -/
theorem les_put (B : Own) (S : Wd) (x : Addr × Cell) (i : Nat) (p : Addr) (v : List Int) (hi : i < S.ps.length) (hl : S.ps.length = S.vs.length) :
    Les (x :: (wcells (S.put i p v) ++ B)) ((p, .l (v.map .int)) :: x :: ((S.pw, .o (.dK [(kEv, .ref S.pe), (kVe, .ref S.pv)])) :: (S.pe, .l (S.es.map evD)) :: (S.pv, .o (.lst ((S.ps.set i p).map V.ref))) :: vcells S.ps S.vs ++ B)) := by
  have h1 : i < (vcells S.ps S.vs).length := by
    unfold vcells
    rw [List.length_zipWith]
    omega
  have hv : vcells (S.ps.set i p) (S.vs.set i v) = (vcells S.ps S.vs).set i (p, .l (v.map .int)) := (zip_set2 (fun (p : Addr) (v : List Int) => (p, Cell.l (v.map PyData.int))) S.ps S.vs i p v).symm
  have q : ∀ (L : Own) (i : Nat) (y : Addr × Cell), i < L.length → ∃ z, (L.set i y ++ [z]).Perm (y :: L) := by
    intro L
    induction L with
    | nil => intro i y h; simp at h
    | cons z L ih =>
      intro i y h
      cases i with
      | zero => exact ⟨z, List.Perm.cons y List.perm_append_comm⟩
      | succ i =>
        obtain ⟨z2, hz⟩ := ih i y (by simpa using h)
        exact ⟨z2, (List.Perm.cons z hz).trans (List.Perm.swap y z L)⟩
  obtain ⟨z, q2⟩ := q (vcells S.ps S.vs) i (p, .l (v.map .int)) h1
  refine ⟨[z], ?_⟩
  unfold wcells Wd.put
  rw [hv]
  generalize vcells S.ps S.vs = L at q2 ⊢
  generalize L.set i (p, .l (v.map .int)) = M at q2 ⊢
  generalize (p, Cell.l (v.map .int)) = y at q2 ⊢
  simp only [List.cons_append, List.append_assoc]
  have q3 : (M ++ (B ++ [z])).Perm (y :: (L ++ B)) := by
    have a1 : (M ++ (B ++ [z])).Perm ((M ++ [z]) ++ B) := by
      rw [List.append_assoc]
      exact List.Perm.append_left M List.perm_append_comm
    exact a1.trans (q2.append_right B)
  refine ((((q3.cons _).cons _).cons _).cons _).trans ?_
  have r : ∀ (a b c d : Addr × Cell) (R : Own), (a :: b :: c :: d :: y :: R).Perm (y :: a :: b :: c :: d :: R) := fun a b c d R => by
    have := @List.perm_middle _ y [a, b, c, d] R
    exact this
  exact r _ _ _ _ _
end WL

set_option Elab.async false
set_option linter.all false
set_option maxRecDepth 100000
set_option maxHeartbeats 2000000
/-! what stays true of a world of writers -/
namespace WL
open PySem PySem.Spec PyProof.Rows L2 DL SX PK SM VO
def Wd.own (S : Wd) (s : Nat) : Int := atN (S.vs.getD s []) s
/-- a vector that goes with a world: of the numbers that were written, closed -/
structure VOk (own : Nat → Int) (es : List Ev) (v : List Int) : Prop where
  len : v.length = 8
  non : ∀ s : Nat, 0 ≤ atN v s
  le : ∀ s : Nat, atN v s ≤ own s
  clo : ∀ e ∈ es, hasE v e = true → ∀ s : Nat, atN e.seen s ≤ atN v s
structure WdI (S : Wd) : Prop where
  len : S.ps.length = S.vs.length
  few : S.ps.length ≤ 4
  vs : ∀ v ∈ S.vs, VOk S.own S.es v
  ok : ∀ e ∈ S.es, EvOk e
  seen : ∀ e ∈ S.es, VOk S.own S.es e.seen
  last : ∀ e ∈ S.es, atN e.seen e.site = e.n - 1
  le : ∀ e ∈ S.es, e.n ≤ S.own e.site.toNat
  top : ∀ e ∈ S.es, IsTop (S.es.filter (hasE e.seen)) (e.height - 1)
  full : ∀ (s : Nat) (n : Int), 1 ≤ n → n ≤ S.own s → ∃ e ∈ S.es, e.site = s ∧ e.n = n
  nd : (S.es.map Ev.dot).Nodup
theorem atN_out {v : List Int} {s : Nat} (h : v.length ≤ s) : atN v s = 0 := by
  unfold atN
  rw [Int.toNat_natCast, List.getD_eq_getElem?_getD, List.getElem?_eq_none h]
  rfl
theorem atN_join {a b : List Int} (h1 : a.length = 8) (h2 : b.length = 8) (s : Nat) : atN (joinN a b) s = max (atN a s) (atN b s) := by
  by_cases h : s < 8
  · unfold atN joinN
    rw [Int.toNat_natCast, List.getD_eq_getElem?_getD, List.getElem?_zipWith, List.getD_eq_getElem?_getD, List.getD_eq_getElem?_getD, List.getElem?_eq_getElem (by omega : s < a.length), List.getElem?_eq_getElem (by omega : s < b.length)]
    rfl
  · rw [atN_out (by rw [joinN_len h1 h2]; omega), atN_out (by omega), atN_out (by omega)]
    rfl
theorem atN_set {v : List Int} {i : Nat} {x : Int} (hi : i < v.length) (s : Nat) : atN (v.set i x) s = if i = s then x else atN v s := by
  unfold atN
  rw [Int.toNat_natCast, List.getD_eq_getElem?_getD, List.getElem?_set, List.getD_eq_getElem?_getD]
  by_cases h : i = s
  · subst h
    rw [if_pos rfl, if_pos hi, if_pos rfl]
    rfl
  · rw [if_neg h, if_neg h]
theorem raiseN_len {v : List Int} {i n : Int} : (raiseN v i n).length = v.length := by
  unfold raiseN
  rw [List.length_set]
theorem atN_raise {v : List Int} {i : Nat} {n : Int} (hi : i < v.length) (s : Nat) : atN (raiseN v i n) s = if i = s then max (atN v i) n else atN v s := by
  unfold raiseN
  rw [Int.toNat_natCast, atN_set hi]
theorem VOk.join {own : Nat → Int} {es : List Ev} {a b : List Int} (h1 : VOk own es a) (h2 : VOk own es b) : VOk own es (joinN a b) := by
  refine ⟨joinN_len h1.len h2.len, fun s => ?_, fun s => ?_, fun e he hh s => ?_⟩
  · have := h1.non s
    rw [atN_join h1.len h2.len]
    omega
  · have := h1.le s
    have := h2.le s
    rw [atN_join h1.len h2.len]
    omega
  · rw [atN_join h1.len h2.len]
    have h3 : hasE a e = true ∨ hasE b e = true := by
      unfold hasE hasN at hh ⊢
      rw [decide_eq_true_iff] at hh ⊢
      rw [decide_eq_true_iff]
      by_cases h : 0 ≤ e.site
      · obtain ⟨k, hk⟩ : ∃ k : Nat, e.site = k := ⟨e.site.toNat, by omega⟩
        rw [hk, atN_join h1.len h2.len] at hh
        rw [hk]
        omega
      · have z : ∀ v : List Int, atN v e.site = atN v (0 : Nat) := fun v => by
          unfold atN
          rw [show e.site.toNat = 0 by omega]
          rfl
        rw [z, atN_join h1.len h2.len] at hh
        rw [z, z]
        omega
    rcases h3 with h3 | h3
    · have := h1.clo e he h3 s
      omega
    · have := h2.clo e he h3 s
      omega
theorem dot_inj {es : List Ev} (nd : (es.map Ev.dot).Nodup) {a b : Ev} (ha : a ∈ es) (hb : b ∈ es) (h : a.dot = b.dot) : a = b := by
  induction es with
  | nil => cases ha
  | cons x es ih =>
    rw [List.map_cons, List.nodup_cons] at nd
    rcases List.mem_cons.mp ha with rfl | ha2
    · rcases List.mem_cons.mp hb with rfl | hb2
      · rfl
      · exact absurd (List.mem_map.mpr ⟨b, hb2, h.symm⟩) nd.1
    · rcases List.mem_cons.mp hb with rfl | hb2
      · exact absurd (List.mem_map.mpr ⟨a, ha2, h⟩) nd.1
      · exact ih nd.2 ha2 hb2
theorem site_nat {e : Ev} (h : EvOk e) : ∃ k : Nat, e.site = k ∧ k < 8 := ⟨e.site.toNat, by have := h.1; omega, by have := h.2.1; have := h.1; omega⟩
theorem WdI.raise {S : Wd} (I : WdI S) {v : List Int} (hv : VOk S.own S.es v) {e : Ev} (he : e ∈ S.es) : VOk S.own S.es (raiseN (joinN v e.seen) e.site e.n) := by
  have hs := I.seen e he
  have hj := hv.join hs
  obtain ⟨k, hk, hk8⟩ := site_nat (I.ok e he)
  have hl := I.le e he
  have hlast := I.last e he
  have hn := (I.ok e he).2.2.1
  rw [hk] at hl hlast ⊢
  rw [Int.toNat_natCast] at hl
  have hkl : k < (joinN v e.seen).length := by rw [hj.len]; exact hk8
  refine ⟨by rw [raiseN_len]; exact hj.len, fun s => ?_, fun s => ?_, fun x hx hh s => ?_⟩
  · rw [atN_raise hkl]
    have := hj.non s
    have := hj.non k
    split <;> omega
  · rw [atN_raise hkl]
    have := hj.le s
    have := hj.le k
    split
    · rename_i h
      subst h
      omega
    · omega
  · have up : ∀ s : Nat, atN (joinN v e.seen) s ≤ atN (raiseN (joinN v e.seen) k e.n) s := fun s => by
      rw [atN_raise hkl]
      split
      · rename_i h
        subst h
        omega
      · omega
    have use : hasE (joinN v e.seen) x = true → atN x.seen s ≤ atN (raiseN (joinN v e.seen) k e.n) s := fun h => by
      have := hj.clo x hx h s
      have := up s
      omega
    obtain ⟨j, hjs, hj8⟩ := site_nat (I.ok x hx)
    unfold hasE hasN at hh use
    rw [decide_eq_true_iff] at hh use
    rw [hjs] at hh use
    rw [atN_raise hkl] at hh
    by_cases h : k = j
    · subst h
      rw [if_pos rfl] at hh
      by_cases h2 : x.n ≤ atN (joinN v e.seen) k
      · exact use h2
      · have h3 : x.n ≤ e.n := by omega
        have hse : ∀ s : Nat, atN e.seen s ≤ atN (joinN v e.seen) s := fun s => by
          rw [atN_join hv.len hs.len]
          omega
        by_cases h4 : x.n = e.n
        · have : x = e := dot_inj I.nd hx he (by unfold Ev.dot; rw [hjs, hk, h4])
          subst this
          have := hse s
          have := up s
          omega
        · have h5 : hasE e.seen x = true := by
            unfold hasE hasN
            rw [decide_eq_true_iff, hjs]
            omega
          have := hs.clo x hx h5 s
          have := hse s
          have := up s
          omega
    · rw [if_neg h] at hh
      exact use hh
theorem WdI.heard {S : Wd} (I : WdI S) {i : Nat} {v' : List Int} (h : Heard S i v') : VOk S.own S.es v' ∧ atN v' i = S.own i := by
  obtain ⟨v, u, hv, hu, h⟩ := h
  have hvm := List.mem_of_getElem? hv
  have ho : S.own i = atN v i := by
    unfold Wd.own
    rw [List.getD_eq_getElem?_getD, hv]
    rfl
  have hv1 := I.vs v hvm
  rcases h with rfl | ⟨e, he, hue, rfl⟩
  · have h1 := hv1.join (I.vs u hu)
    refine ⟨h1, ?_⟩
    have := h1.le i
    have h2 := atN_join hv1.len (I.vs u hu).len i
    omega
  · have h1 := I.raise hv1 he
    refine ⟨h1, ?_⟩
    have := h1.le i
    obtain ⟨k, hk, hk8⟩ := site_nat (I.ok e he)
    have hj := hv1.join (I.seen e he)
    have h2 := atN_join hv1.len (I.seen e he).len i
    have h3 := atN_raise (v := joinN v e.seen) (i := k) (n := e.n) (by rw [hj.len]; exact hk8) i
    rw [hk] at this ⊢
    split at h3
    · rename_i h
      subst h
      omega
    · omega
theorem own_set {S : Wd} {i : Nat} {v : List Int} {S' : Wd} (hi : i < S.vs.length) (h : S'.vs = S.vs.set i v) (s : Nat) : S'.own s = if i = s then atN v i else S.own s := by
  unfold Wd.own
  rw [h, List.getD_eq_getElem?_getD, List.getElem?_set, List.getD_eq_getElem?_getD]
  by_cases e : i = s
  · subst e
    rw [if_pos rfl, if_pos hi, if_pos rfl]
    rfl
  · rw [if_neg e, if_neg e]
theorem WdI.put {S : Wd} (I : WdI S) {i : Nat} {q : Addr} {v' : List Int} (hi : i < S.ps.length) (h : Heard S i v') : WdI (S.put i q v') ∧ (S.put i q v').own = S.own := by
  obtain ⟨h1, h2⟩ := I.heard h
  have hil : i < S.vs.length := by rw [← I.len]; exact hi
  have ho : (S.put i q v').own = S.own := by
    funext s
    rw [own_set (S := S) hil rfl s]
    split
    · rename_i e
      subst e
      exact h2
    · rfl
  refine ⟨⟨?_, ?_, ?_, I.ok, ?_, I.last, ?_, I.top, ?_, I.nd⟩, ho⟩
  · show (S.ps.set i q).length = (S.vs.set i v').length
    rw [List.length_set, List.length_set]
    exact I.len
  · show (S.ps.set i q).length ≤ 4
    rw [List.length_set]
    exact I.few
  · rw [ho]
    intro v hv
    rcases List.mem_or_eq_of_mem_set (show v ∈ S.vs.set i v' from hv) with q | rfl
    · exact I.vs v q
    · exact h1
  · rw [ho]
    exact I.seen
  · rw [ho]
    exact I.le
  · rw [ho]
    exact I.full
theorem WdI.r {S : Wd} (I : WdI S) (h : S.es.length ≤ 900) : WdR S := ⟨I.len, fun v hv => (I.vs v hv).len, I.few, I.ok, I.nd, h⟩
theorem WdI.write {S : Wd} (I : WdI S) {i : Nat} {v : List Int} {m : Int} {o : Op} (hv : S.vs[i]? = some v) (hm : IsTop (S.es.filter (hasE v)) m) (ho : OpOk o) : WdI (S.write i v m o) ∧ (∀ s : Nat, S.own s ≤ (S.write i v m o).own s) := by
  have hil : i < S.vs.length := (List.getElem?_eq_some_iff.mp hv).1
  have hi4 : i < 4 := by have := I.len; have := I.few; omega
  have hv1 := I.vs v (List.mem_of_getElem? hv)
  have hoi : S.own i = atN v i := by
    unfold Wd.own
    rw [List.getD_eq_getElem?_getD, hv]
    rfl
  have hl8 := hv1.len
  have hs : ∀ s : Nat, atN (v.set i (atN v i + 1)) s = if i = s then atN v i + 1 else atN v s := fun s => atN_set (by omega) s
  have hw : ∀ s : Nat, (S.write i v m o).own s = if i = s then S.own i + 1 else S.own s := fun s => by
    rw [own_set (S := S) hil rfl s, hs, if_pos rfl, hoi]
  have hes : (S.write i v m o).es = S.es ++ [newE i v m o] := rfl
  have hup : ∀ s : Nat, S.own s ≤ (S.write i v m o).own s := fun s => by
    rw [hw]
    split
    · rename_i e
      subst e
      omega
    · omega
  have nono : ∀ u : List Int, VOk S.own S.es u → hasE u (newE i v m o) = false := fun u hu => by
    unfold hasE hasN newE
    rw [decide_eq_false_iff_not]
    have := hu.le i
    show ¬ atN v i + 1 ≤ atN u i
    omega
  have old : ∀ u : List Int, VOk S.own S.es u → VOk (S.write i v m o).own (S.write i v m o).es u := fun u hu => by
    refine ⟨hu.len, hu.non, fun s => Int.le_trans (hu.le s) (hup s), fun e he hh s => ?_⟩
    rw [hes, List.mem_append, List.mem_singleton] at he
    rcases he with he | rfl
    · exact hu.clo e he hh s
    · rw [nono u hu] at hh
      cases hh
  have new : VOk (S.write i v m o).own (S.write i v m o).es (v.set i (atN v i + 1)) := by
    have hup2 : ∀ s : Nat, atN v s ≤ atN (v.set i (atN v i + 1)) s := fun s => by
      rw [hs]
      split
      · rename_i e
        subst e
        omega
      · omega
    refine ⟨by rw [List.length_set]; exact hl8, fun s => ?_, fun s => ?_, fun e he hh s => ?_⟩
    · exact Int.le_trans (hv1.non s) (hup2 s)
    · rw [hs, hw]
      have := hv1.le s
      split <;> omega
    · rw [hes, List.mem_append, List.mem_singleton] at he
      rcases he with he | rfl
      · refine Int.le_trans (hv1.clo e he ?_ s) (hup2 s)
        obtain ⟨k, hk, hk8⟩ := site_nat (I.ok e he)
        unfold hasE hasN at hh ⊢
        rw [decide_eq_true_iff] at hh ⊢
        rw [hk, hs] at hh
        have := I.le e he
        rw [hk, Int.toNat_natCast] at this
        rw [hk]
        split at hh
        · rename_i e
          subst e
          omega
        · exact hh
      · exact hup2 s
  refine ⟨⟨?_, I.few, ?_, ?_, ?_, ?_, ?_, ?_, ?_, ?_⟩, hup⟩
  · show S.ps.length = (S.vs.set i _).length
    rw [List.length_set]
    exact I.len
  · intro u hu
    rcases List.mem_or_eq_of_mem_set (show u ∈ S.vs.set i _ from hu) with q | rfl
    · exact old u (I.vs u q)
    · exact new
  · intro e he
    rw [hes, List.mem_append, List.mem_singleton] at he
    rcases he with he | rfl
    · exact I.ok e he
    · have := hv1.non i
      exact ⟨by show (0 : Int) ≤ i; omega, by show (i : Int) < 8; omega, by show 1 ≤ atN v i + 1; omega, hl8, ho⟩
  · intro e he
    rw [hes, List.mem_append, List.mem_singleton] at he
    rcases he with he | rfl
    · exact old _ (I.seen e he)
    · exact old v hv1
  · intro e he
    rw [hes, List.mem_append, List.mem_singleton] at he
    rcases he with he | rfl
    · exact I.last e he
    · show atN v i = atN v i + 1 - 1
      omega
  · intro e he
    rw [hes, List.mem_append, List.mem_singleton] at he
    rcases he with he | rfl
    · exact Int.le_trans (I.le e he) (hup _)
    · show atN v i + 1 ≤ (S.write i v m o).own (i : Int).toNat
      rw [Int.toNat_natCast, hw, if_pos rfl]
      omega
  · intro e he
    have fil : ∀ u : List Int, VOk S.own S.es u → (S.es ++ [newE i v m o]).filter (hasE u) = S.es.filter (hasE u) := fun u hu => by
      rw [List.filter_append, List.filter_cons_of_neg (by rw [nono u hu]; decide)]
      simp
    rw [hes] at he ⊢
    rw [List.mem_append, List.mem_singleton] at he
    rcases he with he | rfl
    · rw [fil _ (I.seen e he)]
      exact I.top e he
    · show IsTop ((S.es ++ [newE i v m o]).filter (hasE v)) (1 + m - 1)
      rw [fil _ hv1, show 1 + m - 1 = m by omega]
      exact hm
  · intro s n h1 h2
    rw [hw] at h2
    by_cases e : i = s
    · subst e
      rw [if_pos rfl] at h2
      by_cases h3 : n ≤ S.own i
      · obtain ⟨x, hx, q⟩ := I.full i n h1 h3
        exact ⟨x, by rw [hes]; exact List.mem_append_left _ hx, q⟩
      · refine ⟨newE i v m o, by rw [hes]; exact List.mem_append_right _ (List.mem_singleton.mpr rfl), rfl, ?_⟩
        show atN v i + 1 = n
        omega
    · rw [if_neg e] at h2
      obtain ⟨x, hx, q⟩ := I.full s n h1 h2
      exact ⟨x, by rw [hes]; exact List.mem_append_left _ hx, q⟩
  · rw [hes, List.map_append, List.nodup_append]
    refine ⟨I.nd, by simp, fun a ha b hb e => ?_⟩
    subst e
    simp only [List.map_cons, List.map_nil, List.mem_singleton] at hb
    obtain ⟨e, he, rfl⟩ := List.mem_map.mp ha
    have h1 := I.le e he
    have h2 : e.site = (i : Int) := congrArg Prod.fst hb
    have h3 : e.n = atN v i + 1 := congrArg Prod.snd hb
    rw [h2, Int.toNat_natCast] at h1
    omega
/-- a new world -/
theorem WdI.new {S : Wd} (h1 : S.es = []) (h2 : S.ps.length ≤ 4) (h3 : S.vs = List.replicate S.ps.length zero8) : WdI S := by
  have z : ∀ s : Nat, atN zero8 s = 0 := fun s => by
    unfold atN zero8
    rw [List.getD_eq_getElem?_getD, List.getElem?_replicate]
    split <;> rfl
  have o : ∀ s, S.own s = 0 := fun s => by
    unfold Wd.own
    rw [h3, List.getD_eq_getElem?_getD, List.getElem?_replicate]
    split
    · exact z s
    · unfold atN
      rfl
  refine ⟨by rw [h3, List.length_replicate], h2, fun v hv => ?_, ?_, ?_, ?_, ?_, ?_, ?_, by rw [h1]; exact List.nodup_nil⟩
  · rw [h3, List.mem_replicate] at hv
    obtain ⟨-, rfl⟩ := hv
    refine ⟨rfl, fun s => by rw [z]; omega, fun s => by rw [z, o]; omega, fun e he => by rw [h1] at he; cases he⟩
  all_goals (try (intro e he; rw [h1] at he; cases he))
  intro s n a b
  rw [o] at b
  omega
end WL

set_option Elab.async false
set_option linter.all false
set_option maxRecDepth 100000
set_option maxHeartbeats 2000000
/-! sorted(.., key=def) -/
namespace SK
open PySem PySem.Spec PyProof.Rows PySem.W L2 DL SM
section
variable {prog : Program} {w : World} {A : Around} {E : Value → Shared → Prop} {s : Shared} {a kS : Addr} {vs : List Value} {e1 : Nat} {P : PySem.Fin → Shared → Prop}
/-- the keys are asked for, one after another; T tells what is kept -/
theorem keyT_rest {f : Value} (T : Nat → Shared → Prop) (h0 : T 0 s)
    (turn : ∀ (i : Nat) (v : Value) (s' : Shared), vs[i]? = some v → T i s' →
      wpAny (model prog w) A (call f [v]) (fun k s'' => ∃ (kA : Array Value) (e : Nat), s''.heap.get? kS = some (seqObj "list" kA e) ∧ kA.size < sizeLine ∧ T (i + 1) { s'' with heap := s''.heap.update kS (Obj.mapSeq (·.push k)) }) (fun _ _ => False) s')
    (fin : ∀ s', T vs.length s' → ∃ (kA : Array Value) (e : Nat), s'.heap.get? kS = some (seqObj "list" kA e) ∧ wpAny (model prog w) A (ksk_end a false vs.toArray e1 (.ref kS) kA) P E s') :
    wpAny (model prog w) A (ksk_rest a f false vs.toArray e1 (.ref kS)) P E s := by
  unfold ksk_rest
  refine wpAny_bind (wpAny_rule ?_)
  first
    | rw [List.forIn_toArray]
    | (rw [← Array.forIn_toList]; simp only [List.toList_toArray])
    | rw [← Array.forIn_toList]
  refine wpAny_bind (ksk_fold (fun i s' => T i s') vs 0 s h0 ?step ?done)
  case step =>
    intro j x s' hx hT
    simp only [Nat.zero_add] at hT ⊢
    refine wpAny_bind (wpAny_attempt (wpAny_mono (turn j x s' hx hT) (fun v s'' he => ?_) fun _ _ hF => hF.elim))
    obtain ⟨kA, e, nk, hz, hT2⟩ := he
    try dsimp only
    refine wpAny_bind (listUpdate_at nk rfl ?_ (Nat.le_of_lt hz) (Nat.le_trans (Nat.le_of_eq (Array.size_push ..)) (Nat.succ_le_succ (Nat.le_of_lt hz))))
    exact wpAny_pure ⟨rfl, hT2⟩
  case done =>
    intro s' hT
    rw [Nat.zero_add] at hT
    obtain ⟨kA, e, nk, hE⟩ := fin s' hT
    try dsimp only
    exact wpAny_bind (listItems_at nk rfl hE)
end
theorem reads_all {X : Cx} {pins : List (Addr × Obj)} {σ : L2.St} {H : Hp} {s : Shared} (I : Inv X pins σ H s) : ∀ {its : List Value} {xs : List V} {ds : List PyData}, Vals xs its → DpAll X.K H xs ds → EachIs (fun v d => ∃ as, Reads s.heap v d as) its ds
  | [], [], [], .nil, _ => .nil
  | _ :: _, _ :: _, _ :: _, .cons q t, .cons a b => .cons (Dp.reads I _ _ _ a q) (reads_all I t b)
theorem vals_snoc {xs : List V} {us : List Value} {x : V} {u : Value} (h : Vals xs us) (r : RelV x u) : Vals (xs ++ [x]) (us ++ [u]) := h.append (.cons r .nil)
theorem args_sortK (a v : Value) : argsOk "sorted" ⟨[a], [(Str.ofString "key", v)]⟩ := by unfold argsOk; kernel_rfl
theorem args_lsortK (a v : Value) : argsOk "list.sort" ⟨[a], [(Str.ofString "key", v)]⟩ := by unfold argsOk; kernel_rfl
/-- an address that is newer than all that was there -/
structure Late (X : Cx) (pins : List (Addr × Obj)) (H : Hp) (n : Nat) (c : Addr) : Prop where
  free : H c = none
  ne : c ≠ X.env.locals
  fs : c ∉ X.fs
  old : X.s_0.heap.objs.size ≤ c
  cell : ∀ x d, X.env.cells.lookup x = some d → d ≠ c
  pin : ∀ p ∈ X.pn ++ pins, p.1 ≠ c
theorem late {X : Cx} {pins : List (Addr × Obj)} {σ : L2.St} {H : Hp} {s : Shared} (I : Inv X pins σ H s) {c : Addr} (h : s.heap.objs.size ≤ c) : Late X pins H s.heap.objs.size c := by
  refine ⟨I.hok.fresh h, fun z => ?_, I.nofs h, Nat.le_trans I.sz h, fun x d e z => ?_, fun p hp z => ?_⟩
  · have := I.lt
    rw [← z] at this
    exact absurd this (Nat.not_lt.mpr h)
  · obtain ⟨v, o, ho, -⟩ := I.cell x d e
    have := Heap.lt_size ho
    rw [z] at this
    exact absurd this (Nat.not_lt.mpr h)
  · have := Heap.lt_size (I.pin p hp).1
    rw [z] at this
    exact absurd this (Nat.not_lt.mpr h)
theorem vals_at : ∀ {xs : List V} {us : List Value} {i : Nat} {v : Value}, Vals xs us → us[i]? = some v → ∃ u, xs[i]? = some u ∧ RelV u v
  | _, _, i, v, .nil, h => by simp at h
  | _, _, 0, v, .cons a b, h => by simp at h; subst h; exact ⟨_, rfl, a⟩
  | _, _, i + 1, v, .cons a b, h => vals_at (i := i) b (by simpa using h)
/-- two untracked objects of ours have changed; one of them is tracked from now on -/
theorem inv_two {X : Cx} {pins : List (Addr × Obj)} {σ : L2.St} {H : Hp} {s : Shared} {h' : Heap} {a b : Addr} {o : HO} {t : Nat} (I : Inv X pins σ H s) (hab : b ≠ a) (ha : Late X pins H 0 a) (hb : Late X pins H 0 b)
    (k : ∀ c u, c ≠ a → c ≠ b → s.heap.get? c = some u → h'.get? c = some u) (new : ObjOk X.prog X.w (upd H a o) h' a o) :
    Inv X pins σ (upd H a o) { s with heap := h', toks := t } := by
  have na : ∀ c u, H c = some u → c ≠ a := fun c u e z => by rw [z, ha.free] at e; cases e
  have nb : ∀ c u, H c = some u → c ≠ b := fun c u e z => by rw [z, hb.free] at e; cases e
  refine I.step (g' := s.gens) (d' := s.drawn) (ch := [a, b]) (fun c hc => ?_) (fun c u _ _ hc e _ => k c u (fun z => hc (by simp [z])) (fun z => hc (by simp [z])) e)
    (fun c u _ _ hc e _ => ⟨u.slots, k c u (fun z => hc (by simp [z])) (fun z => hc (by simp [z])) e⟩) (fun c u hc _ n => by rw [upd_ne (fun z => hc (by simp [z]))]; exact n)
    (fun c u hc e => ⟨u, k c u (fun z => hc (by simp [z])) (fun z => hc (by simp [z])) e⟩) (fun c xs e => by rw [upd_ne (na c _ e)]; exact e) (fun c u xs e => by rw [upd_ne (na c _ e)]; exact e) (fun c ps e => ⟨#[], by rw [upd_ne (na c _ e), e]; simp⟩) (fun m hm => ?_) (fun c u e => ?_) I.bare
  · simp only [List.mem_cons, List.not_mem_nil, or_false] at hc
    rcases hc with rfl | rfl
    · exact ⟨.inr ha.old, ha.ne, ha.cell, ha.pin⟩
    · exact ⟨.inr hb.old, hb.ne, hb.cell, hb.pin⟩
  · obtain ⟨o, es, ep, ho, r⟩ := hm
    exact ⟨o, es, ep, k _ o (Ne.symm ha.ne) (Ne.symm hb.ne) ho, r⟩
  · by_cases hc : c = a
    · subst hc
      rw [upd_same] at e
      cases e
      exact new
    · rw [upd_ne hc] at e
      refine (I.hok c u e).stay (fun d v hd q => ?_) (fun d q => by rw [upd_ne (na d _ q)]; exact q) fun d xs q => by rw [upd_ne (na d _ q)]; exact q
      rcases hd with z | z
      · rw [z] at q ⊢
        exact k c v (na c u e) (nb c u e) q
      · exact k d v (na d _ z) (nb d _ z) q
theorem sortK_run {X : Cx} {pins : List (Addr × Obj)} {σ : L2.St} {H : Hp} {s : Shared} {l f : Addr} {xs : List V} {ds : List PyData} {Hr : Hp} {O : Own} {k : Nat} {pre : Pre} {fd : FuncData} {ps : List Str} (kf : PyData → PyData)
    (F : FnOk X.prog X.w X.K X.mg X.base CX0 k f fd ps (spD X.K 1 pre)) (hb : Binds X.K fd ps []) (hr : Room (k + 2) X.A) (I : Inv X pins σ H s) (S : Sep X.K Hr O H) (hl : H l = some (.lst xs)) (hd : DvAll X.K Hr xs ds) (hlt : ds.length < sizeLine)
    (hal : AllAlike (ds.map kf)) (hsk : Sortable (ds.map kf)) (hu : ∀ d ∈ ds.map kf, X.A.units + 2 + d.depth < cLine) (turn : ∀ d ∈ ds, pre [.d d] O fun w O' => w = .d (kf d) ∧ O' = O) (Q : VK)
    (h : ∀ (ys : List V) (p : Addr) (H' Hr' : Hp), Same Hr Hr' → Sep X.K Hr' O H' → H' p = none → DvAll X.K Hr' ys (ds.mergeSort (dataLe false kf)) → Q (.ref p) (upd H' p (.lst ys))) :
    wpAny (model X.prog X.w) X.A (call (.builtin "sorted") [.ref l] [(Str.ofString "key", .ref f)]) (EP X pins σ Q) X.xe s := by
  obtain ⟨hz, its, n, rv, ho⟩ := (show ObjOk X.prog X.w H s.heap l (.lst xs) from I.hok l _ hl)
  have hil : its.length = ds.length := by rw [← rv.length, hd.len]
  refine sorted_of_sort (vs := its) ⟨_, ho, rfl, n, rfl⟩ (by omega) (args_sortK _ _) (fun x => args_lsortK _ _) fun E' => ?_
  rw [ksk_t1]
  have ho0 := copyHeap_at s.heap its
  obtain ⟨e1, ho1⟩ : ∃ e1, ((copyHeap s.heap its).update (s.heap.objs.size + 1) (Obj.mapSeq fun _ => (#[] : Array Value))).get? (s.heap.objs.size + 1) = some (seqObj "list" #[] e1) := ⟨_, get?_update_seq ho0 fun _ => #[]⟩
  have hcs : (copyHeap s.heap its).objs.size = s.heap.objs.size + 2 := by
    unfold copyHeap
    rw [size_push', Heap.size_update, size_push']
  have hkS : (((copyHeap s.heap its).update (s.heap.objs.size + 1) (Obj.mapSeq fun _ => (#[] : Array Value))).push (seqObj "tuple" its.toArray 0)).objs.size = s.heap.objs.size + 3 := by rw [size_push', Heap.size_update, hcs]
  unfold ksk_tree
  refine wpAny_bind (listItems_at ho0 rfl ?_)
  refine wpAny_bind (listUpdate_at ho0 rfl ?_ (by rw [List.size_toArray]; omega) (Nat.zero_le _))
  refine wpAny_bind (seqEpoch_at ho1 rfl ?_)
  refine wpAny_bind (wpAny_newTuple ?_ (by show its.length ≤ _; omega))
  refine wpAny_bind (wpAny_newList ?_ (Nat.zero_le _))
  refine wpAny_holding ?_
  have kp0 : ∀ b o, s.heap.get? b = some o → (sortingHeap (copyHeap s.heap its) (s.heap.objs.size + 1) its).get? b = some o := fun b o q => sorting_copy_old q
  have nk0 : (sortingHeap (copyHeap s.heap its) (s.heap.objs.size + 1) its).get? (s.heap.objs.size + 3) = some (seqObj "list" #[] 0) := by
    unfold sortingHeap
    rw [← hkS]
    exact Heap.get?_push_size _ rfl
  have na0 : (sortingHeap (copyHeap s.heap its) (s.heap.objs.size + 1) its).get? (s.heap.objs.size + 1) = some (seqObj "list" #[] e1) := by
    unfold sortingHeap
    exact Heap.get?_push_of_some _ (Heap.get?_push_of_some _ ho1)
  have La := late I (c := s.heap.objs.size + 1) (by omega)
  have Lk := late I (c := s.heap.objs.size + 3) (by omega)
  rw [hkS]
  show wpAny (model X.prog X.w) X.A.in1.in1 (ksk_rest (s.heap.objs.size + 1) (.ref f) false its.toArray e1 (.ref (s.heap.objs.size + 3))) _ _ { s with heap := sortingHeap (copyHeap s.heap its) (s.heap.objs.size + 1) its }
  generalize hA : s.heap.objs.size + 1 = a at *
  generalize hK : s.heap.objs.size + 3 = kS at *
  have hka : kS ≠ a := by omega
  generalize sortingHeap (copyHeap s.heap its) a its = h1 at *
  have I0 : Inv X pins σ H { s with heap := h1 } := I.kept (t' := s.toks) kp0
  have two : ∀ {H2 : Hp} {kA : Array Value} {e : Nat} {s2 : Shared}, Inv X pins σ H2 s2 → s2.heap.get? kS = some (seqObj "list" kA e) → s2.heap.get? a = some (seqObj "list" #[] e1) → H2 kS = none → H2 a = none → Inv X ((kS, seqObj "list" kA e) :: (a, seqObj "list" #[] e1) :: pins) σ H2 s2 := fun {H2 kA e s2} J q1 q2 q3 q4 => J.pins_of fun p hp => by
    rcases List.mem_cons.mp hp with rfl | hp
    · exact ⟨q1, q3, Lk.ne, Lk.fs, fun v z => by cases z⟩
    · rcases List.mem_cons.mp hp with rfl | hp
      · exact ⟨q2, q4, La.ne, La.fs, fun v z => by cases z⟩
      · exact J.pin p (List.mem_append_right _ hp)
  have hkl : (ds.map kf).length = its.length := by rw [List.length_map]; omega
  refine keyT_rest (fun i s' => ∃ (H' Hr' : Hp) (kA : Array Value) (e : Nat) (ks : List V), Inv X ((kS, seqObj "list" kA e) :: (a, seqObj "list" #[] e1) :: pins) σ H' s' ∧ Vals ks kA.toList ∧ Same Hr Hr' ∧ Sep X.K Hr' O H' ∧ DvAll X.K Hr' ks ((ds.map kf).take i)) ?_ ?_ ?_
  · exact ⟨H, Hr, #[], 0, [], two I0 nk0 na0 Lk.free La.free, .nil, Same.refl _, S, by rw [List.take_zero]; exact .nil⟩
  · rintro i v s' hv ⟨H', Hr', kA, e, ks, J, rk, eS, S', dk⟩
    have hi : i < its.length := (List.getElem?_eq_some_iff.mp hv).1
    obtain ⟨u, hu1, ru⟩ : ∃ u, xs[i]? = some u ∧ RelV u v := vals_at rv hv
    obtain ⟨d, hd1, kd⟩ := hd.getV hu1
    have hlen : ([v] ++ ([] : List Value)).length = ps.length := by
      have := F.len [u] H' (fun _ _ => True) (fun _ _ _ => True) ⟨[.d d], O, Hr', _, S', .cons (dv_mono eS kd) .nil, rfl, turn d (List.mem_of_getElem? hd1), fun _ _ _ => trivial⟩
      simpa using this
    have kin := J.kIn
    refine wpAny_call (codeAny_mono (F.run X.A.in1.in1 X.stack s' H' ⟨[v], []⟩ [v] [u] (PO X.K Hr' fun w O' => w = .d (kf d) ∧ O' = O) (fun _ _ _ => True) (Room.in1 (Room.in1 hr)) J.env0.in1.in1 (by have := hb s' [v] kin hlen; rwa [List.append_nil] at this) (.cons ru .nil)
      ⟨[.d d], O, Hr', _, S', .cons (dv_mono eS kd) .nil, rfl, turn d (List.mem_of_getElem? hd1), fun _ _ q => q⟩) fun r s2 hq => ?_)
    cases r with
    | error e => exact (show False from hq).elim
    | ok fl =>
      cases fl with
      | next => exact False.elim hq
      | brk => exact False.elim hq
      | cont => exact False.elim hq
      | ret z =>
        obtain ⟨y, H2, J2, ry, w2, O2, Hr2, ⟨rfl, rfl⟩, e2, S2, ky⟩ := J.after hq
        have pk := J2.pin (kS, seqObj "list" kA e) (List.mem_append_right _ List.mem_cons_self)
        have pa := J2.pin (a, seqObj "list" #[] e1) (List.mem_append_right _ (List.mem_cons_of_mem _ List.mem_cons_self))
        have hks : kA.size ≤ i := by
          have h1 := dk.len
          have h2 := rk.length
          have h4 : kA.toList.length = kA.size := Array.length_toList ..
          rw [List.length_take] at h1
          omega
        refine ⟨kA, e, pk.1, by omega, H2, Hr2, ?_⟩
        obtain ⟨c2, hc2⟩ : ∃ c2, (s2.heap.update kS (Obj.mapSeq (·.push z))).get? kS = some (seqObj "list" (kA.push z) c2) := ⟨_, get?_update_seq pk.1 (·.push z)⟩
        have J3 : Inv X pins σ H2 s2 := J2.pins_of fun p hp => J2.pin p (List.mem_append_right _ (List.mem_cons_of_mem _ (List.mem_cons_of_mem _ hp)))
        have up : ∀ b o, b ≠ kS → s2.heap.get? b = some o → (s2.heap.update kS (Obj.mapSeq (·.push z))).get? b = some o := fun b o hb q => (Heap.get?_update_ne _ _ _ _ hb).trans q
        have J4 := J3.turned (h' := s2.heap.update kS (Obj.mapSeq (·.push z))) (t' := s2.toks) (it := kS) up pk.2.1 Lk.ne (.inr Lk.old) Lk.cell fun p hp => Lk.pin p hp
        refine ⟨kA.push z, c2, ks ++ [y], two J4 hc2 (up _ _ hka.symm pa.1) pk.2.1 pa.2.1, ?_, eS.trans e2, S2, ?_⟩
        · rw [Array.toList_push]
          exact vals_snoc rk ry
        · have ek : (ds.map kf).take (i + 1) = (ds.map kf).take i ++ [kf d] := by
            rw [List.take_add_one, List.getElem?_map, hd1]
            rfl
          rw [ek]
          exact (dvAll_mono e2 dk).snoc ky
  · rintro s' ⟨H', Hr', kA, e, ks, J, rk, eS, S', dk⟩
    have pk := J.pin (kS, seqObj "list" kA e) (List.mem_append_right _ List.mem_cons_self)
    have pa := J.pin (a, seqObj "list" #[] e1) (List.mem_append_right _ (List.mem_cons_of_mem _ List.mem_cons_self))
    have J3 : Inv X pins σ H' s' := J.pins_of fun p hp => J.pin p (List.mem_append_right _ (List.mem_cons_of_mem _ (List.mem_cons_of_mem _ hp)))
    rw [List.take_of_length_le (by omega)] at dk
    have hr' : EachIs (fun v d => ∃ as, Reads s'.heap v d as) kA.toList (ds.map kf) := reads_all J rk (DvAll.dp (dvAll_mono S'.ex dk))
    have hks : kA.size = its.length := by
      have h1 := dk.len
      have h2 := rk.length
      have h4 : kA.toList.length = kA.size := Array.length_toList ..
      omega
    refine ⟨kA, e, pk.1, ?_⟩
    refine keyH_end (b := false) (κ := dataKind s'.heap (ds.map kf)) (h₁ := hideAll s'.heap [kS]) (fun b o _ q => of_hideAll _ q) (hideAll_none [kS] List.mem_cons_self) pk.1 pa.1 hka (SortsAt.data (s := s') hr' hal hsk (fun d hd => by
      have := hu d hd
      show X.A.units + 1 + 1 + d.depth < cLine
      omega)) hks (by omega) fun h3 tk3 c k3 n3 => ⟨rfl, ?_⟩
    have hxl : xs.length = ds.length := by rw [← hil, rv.length]
    have e2 : (xs.zip ds).map (fun b => kf b.2) = ds.map kf := by
      have q : ds.map kf = ((xs.zip ds).map Prod.snd).map kf := by rw [List.map_snd_zip (by omega)]
      rw [q, List.map_map]
      rfl
    have ko : KeyedOut false ((xs.zip ds).map fun b => kf b.2) its (sortVals (dataKind s'.heap (ds.map kf)) false kA.toList its) := ⟨s'.heap, kA.toList, by rw [e2]; exact hal, by rw [e2], by rw [e2]; exact hr'⟩
    have eo := keyedOut_each (R := fun v (b : V × PyData) => RelV b.1 v) (fun b => kf b.2) ko (each_zip rv hxl)
    have hp := vals_out eo
    have em : ((xs.zip ds).mergeSort (dataLe false fun b => kf b.2)).map (fun b => b.2) = ds.mergeSort (dataLe false kf) := by
      have q := sort_maps (r := dataLe false fun b : V × PyData => kf b.2) (s := dataLe false kf) (fun b : V × PyData => b.2) (l := xs.zip ds) (fun _ _ _ _ => rfl)
      rw [List.map_snd_zip (by omega)] at q
      exact q
    have hyl : (((xs.zip ds).mergeSort (dataLe false fun b => kf b.2)).map (·.1)).length ≤ sizeLine := by
      rw [List.length_map, List.length_mergeSort, List.length_zip]
      omega
    have La' : Late X pins H' 0 a := ⟨pa.2.1, La.ne, La.fs, La.old, La.cell, La.pin⟩
    have Lk' : Late X pins H' 0 kS := ⟨pk.2.1, Lk.ne, Lk.fs, Lk.old, Lk.cell, Lk.pin⟩
    refine ⟨.ref a, _, inv_two (o := .lst (((xs.zip ds).mergeSort (dataLe false fun b => kf b.2)).map (·.1))) J3 hka La' Lk' (fun b o ha hk q => k3 b o ha (hideAll_get [kS] q (by simpa using hk))) ⟨hyl, _, c, hp, n3⟩, rfl, ?_⟩
    refine h _ a H' Hr' eS S' pa.2.1 (dvAll_perm ?_ fun b hb => ?_)
    · rw [← em, List.length_map, List.length_map]
    · rw [← em, zip_maps] at hb
      exact dvAll_zip (dvAll_mono eS hd) b ((List.mergeSort_perm _ _).mem_iff.mp hb)
section
variable {X : Cx} {τ : Tau} {O : Own} {P : DL.W → Own → Prop} {p pos np kp' : Pos} {x : Str} {e : Expr} {k : Nat} {pre : Pre}
/-- sorted(e, key=x), x a def: a new list -/
theorem de_sortKO (kf : PyData → PyData) (F : Def X.prog X.w X.K X.mg X.base k x 1 pre) (hr : Room (k + 2) X.A) (hm : X.mg "sorted" = none)
    (h : DE X τ O e fun w O1 => ∃ ds, RdL w O1 ds ∧ ds.length < sizeLine ∧ AllAlike (ds.map kf) ∧ Sortable (ds.map kf) ∧ (∀ d ∈ ds.map kf, X.A.units + 2 + d.depth < cLine) ∧ (∀ d ∈ ds, pre [.d d] O1 fun w O' => w = .d (kf d) ∧ O' = O1) ∧
      ∀ q, P (.r (.ref q)) ((q, .l (ds.mergeSort (dataLe false kf))) :: O1))
    (hg : Gl X "sorted" := by rfl) (hgx : Gl X x := by rfl) (hx : (x == ("__debug__" : Str)) = false := by decide) (hs : starEach [e] X.env = (false, eval e X.env) :: starEach [] X.env := by rfl)
    (he : backTo pos (starEach [e] X.env) = (false, eval e X.env) :: backTo pos (starEach [] X.env) := by rfl) (hpl : (backTo pos (starEach [e] X.env)).any (·.1) = false := by rfl)
    (hall : (backToKw pos (keywordEach [⟨some "key", .Name x np, kp'⟩] X.env)).all (·.1.isSome) = true := by rfl) (hnone : (backToKw pos (keywordEach [⟨some "key", .Name x np, kp'⟩] X.env)).any (·.1.isNone) = false := by rfl)
    (hks : (backToKw pos (keywordEach [⟨some "key", .Name x np, kp'⟩] X.env)).filterMap (·.1) = [("key" : Str)] := by rfl) :
    DE X τ O (.Call (.Name "sorted" p) [e] [⟨some "key", .Name x np, kp'⟩] pos) P := by
  refine ⟨?_⟩
  intro σ Hr H Q hE hS hQ pins s I
  obtain ⟨f, fd, ps, F, hmx, hk, hb⟩ := F.ex
  have hc : CallRK X (.builtin "sorted") [("key" : Str)] (fun xs zs H Q => ∀ (pins : List (Addr × Obj)) (s : Shared) (σ : L2.St) (us ws : List Value), Inv X pins σ H s → Vals xs us → Vals zs ws → wpAny (model X.prog X.w) X.A (call (.builtin "sorted") us ([("key" : Str)].zip ws)) (EP X pins σ Q) X.xe s) :=
    fun pins s σ H xs zs us ws Q I r1 r2 h => h pins s σ us ws I r1 r2
  refine (pe_callBK hc hg hm boot_sorted pa_ta (pk_cons (pe_glob hgx hmx (v := .ref f) rfl hx) pk_nil) (by decide) (by decide) he hpl hall hnone hks).run pins s σ H Q I ?_
  refine (da_cons (PA := fun ws O1 => ∃ w, ws = [w] ∧ ∃ ds, RdL w O1 ds ∧ ds.length < sizeLine ∧ AllAlike (ds.map kf) ∧ Sortable (ds.map kf) ∧ (∀ d ∈ ds.map kf, X.A.units + 2 + d.depth < cLine) ∧ (∀ d ∈ ds, pre [.d d] O1 fun w O' => w = .d (kf d) ∧ O' = O1) ∧
      ∀ q, P (.r (.ref q)) ((q, .l (ds.mergeSort (dataLe false kf))) :: O1)) (h.mono fun w O' q => da_nil ⟨w, rfl, q⟩) hs) σ Hr H _ hE hS fun vs H1 ⟨ws, O1, Hr1, ⟨w, hw, ds, r, hlt, hal, hsk, hu, ht, hP⟩, e1, s1, k1⟩ => ?_
  subst hw
  cases k1 with
  | cons k1 k2 =>
    cases k2
    obtain ⟨l, xs, rfl, hl, hd⟩ := r.at s1 k1
    show ∀ (pins : List (Addr × Obj)) (s : Shared) (σ : L2.St) (us ws : List Value), Inv X pins σ H1 s → Vals [V.ref l] us → Vals [V.ref f] ws → wpAny (model X.prog X.w) X.A (call (.builtin "sorted") us ([("key" : Str)].zip ws)) (EP X pins σ Q) X.xe s
    intro pins s σ us ws I r1 r2
    rw [Vals.ref1 r1, Vals.ref1 r2]
    refine sortK_run kf F hb hr I s1 hl hd hlt hal hsk hu ht Q fun ys q H' Hr' eS S' hn dv => hQ _ _ ?_
    exact ⟨_, _, Hr', hP q, e1.trans eS, S'.newOwn (c := .l _) hn ⟨ys, upd_same, dv⟩, rfl⟩
theorem de_sortK (kf : PyData → PyData) (F : Def X.prog X.w X.K X.mg X.base k x 1 pre) (hr : Room (k + 2) X.A) (hm : X.mg "sorted" = none)
    (h : DE X τ O e fun w O1 => ∃ ds, RdL w O1 ds ∧ ds.length < sizeLine ∧ AllAlike (ds.map kf) ∧ Sortable (ds.map kf) ∧ (∀ d ∈ ds.map kf, X.A.units + 2 + d.depth < cLine) ∧ (∀ d ∈ ds, pre [.d d] O1 fun w O' => w = .d (kf d) ∧ O' = O1) ∧
      P (.d (.list (ds.mergeSort (dataLe false kf)))) O1)
    (hg : Gl X "sorted" := by rfl) (hgx : Gl X x := by rfl) (hx : (x == ("__debug__" : Str)) = false := by decide) (hs : starEach [e] X.env = (false, eval e X.env) :: starEach [] X.env := by rfl)
    (he : backTo pos (starEach [e] X.env) = (false, eval e X.env) :: backTo pos (starEach [] X.env) := by rfl) (hpl : (backTo pos (starEach [e] X.env)).any (·.1) = false := by rfl)
    (hall : (backToKw pos (keywordEach [⟨some "key", .Name x np, kp'⟩] X.env)).all (·.1.isSome) = true := by rfl) (hnone : (backToKw pos (keywordEach [⟨some "key", .Name x np, kp'⟩] X.env)).any (·.1.isNone) = false := by rfl)
    (hks : (backToKw pos (keywordEach [⟨some "key", .Name x np, kp'⟩] X.env)).filterMap (·.1) = [("key" : Str)] := by rfl) :
    DE X τ O (.Call (.Name "sorted" p) [e] [⟨some "key", .Name x np, kp'⟩] pos) P :=
  de_kp (de_sortKO kf F hr hm (h.mono fun w O1 ⟨ds, r, hlt, hal, hsk, hu, ht, hP⟩ => ⟨ds, r, hlt, hal, hsk, hu, ht, fun q => .inr ⟨q, _, O1, rfl, rfl, hP⟩⟩) hg hgx hx hs he hpl hall hnone hks)
end
end SK

set_option Elab.async false
set_option linter.all false
set_option maxRecDepth 100000
set_option maxHeartbeats 2000000
/-! heads, by the law and by the program -/
namespace WL
open PySem PySem.Spec PyProof.Rows L2 DL SX PK SM VO
/-- sorted lists of the same items are one -/
theorem perm_uniq {α : Type} {r : α → α → Prop} : ∀ {l m : List α}, l.Perm m → l.Pairwise r → m.Pairwise r → (∀ a ∈ l, ∀ b ∈ l, r a b → r b a → a = b) → l = m
  | [], m, h, _, _, _ => (List.Perm.nil_eq h)
  | x :: l, [], h, _, _, _ => absurd h.length_eq (by simp)
  | x :: l, y :: m, h, hl, hm, an => by
    have e : x = y := by
      rcases List.mem_cons.mp (h.mem_iff.mp (List.mem_cons_self (a := x) (l := l))) with e | hx
      · exact e
      · rcases List.mem_cons.mp (h.mem_iff.mpr (List.mem_cons_self (a := y) (l := m))) with e | hy
        · exact e.symm
        · exact an x List.mem_cons_self y (List.mem_cons_of_mem _ hy) ((List.pairwise_cons.mp hl).1 y hy) ((List.pairwise_cons.mp hm).1 x hx)
    subst e
    rw [perm_uniq h.cons_inv (List.pairwise_cons.mp hl).2 (List.pairwise_cons.mp hm).2 fun a ha b hb => an a (List.mem_cons_of_mem _ ha) b (List.mem_cons_of_mem _ hb)]
def leDot (a b : Ev) : Bool := decide ([a.site, a.n] ≤ [b.site, b.n])
theorem le2 (a b c d : Int) : [a, b] ≤ [c, d] ↔ a < c ∨ (a = c ∧ b ≤ d) := by
  rw [List.cons_le_cons_iff]
  constructor
  · rintro (h | ⟨h, h2⟩)
    · exact .inl h
    · rw [List.cons_le_cons_iff] at h2
      rcases h2 with h2 | ⟨h2, -⟩
      · exact .inr ⟨h, by omega⟩
      · exact .inr ⟨h, by omega⟩
  · rintro (h | ⟨h, h2⟩)
    · exact .inl h
    · refine .inr ⟨h, ?_⟩
      rw [List.cons_le_cons_iff]
      by_cases e : b = d
      · exact .inr ⟨e, by simp⟩
      · exact .inl (by omega)
theorem leDot_trans (a b c : Ev) (h1 : leDot a b = true) (h2 : leDot b c = true) : leDot a c = true := by
  unfold leDot at *
  rw [decide_eq_true_iff, le2] at *
  omega
theorem leDot_total (a b : Ev) : (leDot a b || leDot b a) = true := by
  unfold leDot
  rw [Bool.or_eq_true, decide_eq_true_iff, decide_eq_true_iff, le2, le2]
  omega
theorem leDot_anti {a b : Ev} (h1 : leDot a b = true) (h2 : leDot b a = true) : a.dot = b.dot := by
  unfold leDot at *
  rw [decide_eq_true_iff, le2] at *
  unfold Ev.dot
  have e1 : a.site = b.site := by omega
  have e2 : a.n = b.n := by omega
  rw [e1, e2]
/-- sorting, then choosing, or the other way round -/
theorem sort_filter {es : List Ev} (nd : (es.map Ev.dot).Nodup) (p : Ev → Bool) : (es.filter p).mergeSort leDot = (es.mergeSort leDot).filter p := by
  refine perm_uniq (r := fun a b => leDot a b = true) ?_ (List.pairwise_mergeSort leDot_trans leDot_total _) ((List.pairwise_mergeSort leDot_trans leDot_total es).filter p) fun a ha b hb h1 h2 => ?_
  · exact (List.mergeSort_perm _ _).trans ((List.mergeSort_perm es leDot).filter p).symm
  · rw [List.mem_mergeSort] at ha hb
    exact dot_inj nd (List.mem_filter.mp ha).1 (List.mem_filter.mp hb).1 (leDot_anti h1 h2)
theorem sort_perm {es es' : List Ev} (nd : (es.map Ev.dot).Nodup) (h : es'.Perm es) : es'.mergeSort leDot = es.mergeSort leDot := by
  refine perm_uniq (r := fun a b => leDot a b = true) ?_ (List.pairwise_mergeSort leDot_trans leDot_total _) (List.pairwise_mergeSort leDot_trans leDot_total _) fun a ha b hb h1 h2 => ?_
  · exact ((List.mergeSort_perm _ _).trans h).trans (List.mergeSort_perm _ _).symm
  · rw [List.mem_mergeSort] at ha hb
    exact dot_inj nd (h.mem_iff.mp ha) (h.mem_iff.mp hb) (leDot_anti h1 h2)
def brow (e : Ev) : PB := ([e.site, e.n], [vec e.seen, .int e.height, opD e.op])
theorem brow_ev (e : Ev) : encP (brow e) = evD e := rfl
theorem sort_brow (es : List Ev) : (es.map brow).mergeSort leP = (es.mergeSort leDot).map brow := by
  refine (PySem.W.sort_maps (r := leDot) (s := leP) brow fun a _ b _ => ?_).symm
  rw [leP_eq]
  rfl
/-- the heads as the law finds them -/
def headsL (es : List Ev) (key : Str) : List Ev := ((rowsE es "set" key).mergeSort leDot).filter fun e => decide (((rowsE es "set" key).filter fun o => hasE o.seen e).length = 0)
/-- what all saw -/
def sawAll (es : List Ev) : List Int := es.foldl (fun s e => joinN s e.seen) zero8
def knowsN (vs : List Int) (a b : Int) : Bool := decide (0 ≤ a ∧ a < vs.length) && decide (b ≤ vs.getD a.toNat 0)
def headsP (es : List Ev) (key : Str) : List Ev := ((rowsE es "set" key).filter fun e => !knowsN (sawAll (rowsE es "set" key)) e.site e.n).mergeSort leDot
theorem zero8_at (s : Nat) : atN zero8 s = 0 := by
  unfold atN zero8
  rw [List.getD_eq_getElem?_getD, List.getElem?_replicate]
  split <;> rfl
theorem saw_fold : ∀ (es : List Ev) (v : List Int), v.length = 8 → (∀ e ∈ es, e.seen.length = 8) → (es.foldl (fun s e => joinN s e.seen) v).length = 8 ∧ ∀ (s : Nat) (n : Int), n ≤ atN (es.foldl (fun s e => joinN s e.seen) v) s ↔ n ≤ atN v s ∨ ∃ e ∈ es, n ≤ atN e.seen s
  | [], v, hv, _ => ⟨hv, fun s n => ⟨.inl, fun h => h.elim id fun ⟨e, he, _⟩ => by cases he⟩⟩
  | e :: es, v, hv, h => by
    have h1 := h e List.mem_cons_self
    obtain ⟨a, b⟩ := saw_fold es (joinN v e.seen) (joinN_len hv h1) fun x hx => h x (List.mem_cons_of_mem _ hx)
    refine ⟨a, fun s n => ?_⟩
    rw [List.foldl_cons, b, atN_join hv h1]
    constructor
    · rintro (q | ⟨x, hx, q⟩)
      · by_cases r : n ≤ atN v s
        · exact .inl r
        · exact .inr ⟨e, List.mem_cons_self, by omega⟩
      · exact .inr ⟨x, List.mem_cons_of_mem _ hx, q⟩
    · rintro (q | ⟨x, hx, q⟩)
      · exact .inl (by omega)
      · rcases List.mem_cons.mp hx with rfl | hx
        · exact .inl (by omega)
        · exact .inr ⟨x, hx, q⟩
theorem saw_len {es : List Ev} (h : ∀ e ∈ es, EvOk e) : (sawAll es).length = 8 := (saw_fold es zero8 rfl fun e he => (h e he).2.2.2.1).1
theorem knows_saw {es : List Ev} (h : ∀ e ∈ es, EvOk e) {e : Ev} (he : EvOk e) : knowsN (sawAll es) e.site e.n = decide (0 < (es.filter fun o => hasE o.seen e).length) := by
  obtain ⟨k, hk, hk8⟩ := site_nat he
  have hn := he.2.2.1
  obtain ⟨a, b⟩ := saw_fold es zero8 rfl fun x hx => (h x hx).2.2.2.1
  unfold knowsN
  have e1 : (decide (0 ≤ e.site ∧ e.site < (sawAll es).length)) = true := by
    rw [decide_eq_true_iff, saw_len h, hk]
    omega
  rw [e1, Bool.true_and, hk]
  have e2 : ((sawAll es).getD (k : Int).toNat 0) = atN (sawAll es) k := rfl
  rw [e2]
  have b2 := b k e.n
  rw [zero8_at] at b2
  rw [Bool.eq_iff_iff, decide_eq_true_iff, decide_eq_true_iff]
  show e.n ≤ atN (es.foldl (fun s e => joinN s e.seen) zero8) k ↔ _
  rw [b2, List.length_pos_iff_exists_mem]
  constructor
  · rintro (q | ⟨x, hx, q⟩)
    · omega
    · refine ⟨x, List.mem_filter.mpr ⟨hx, ?_⟩⟩
      unfold hasE hasN
      rw [decide_eq_true_iff, hk]
      exact q
  · rintro ⟨x, hx⟩
    obtain ⟨hx, q⟩ := List.mem_filter.mp hx
    unfold hasE hasN at q
    rw [decide_eq_true_iff, hk] at q
    exact .inr ⟨x, hx, q⟩
theorem rowsE_ok {es : List Ev} {wd key : Str} (h : ∀ e ∈ es, EvOk e) : ∀ e ∈ rowsE es wd key, EvOk e := fun e he => h e (List.mem_filter.mp he).1
theorem rowsE_nd {es : List Ev} {wd key : Str} (nd : (es.map Ev.dot).Nodup) : ((rowsE es wd key).map Ev.dot).Nodup := nd.sublist (List.filter_sublist.map _)
theorem rowsE_len {es : List Ev} {wd key : Str} : (rowsE es wd key).length ≤ es.length := List.length_filter_le _ _
theorem heads_eq {es : List Ev} (h : ∀ e ∈ es, EvOk e) (nd : (es.map Ev.dot).Nodup) (key : Str) : headsP es key = headsL es key := by
  unfold headsP headsL
  rw [sort_filter (rowsE_nd nd)]
  refine List.filter_congr fun e he => ?_
  rw [List.mem_mergeSort] at he
  rw [knows_saw (rowsE_ok h) (rowsE_ok h e he)]
  cases hq : ((rowsE es "set" key).filter fun o => hasE o.seen e).length with
  | zero => rfl
  | succ n => simp
theorem isSet {key : Str} {o : Op} (h : isOp "set" key o = true) : ∃ v, o = .set key v := by
  cases o with
  | set k v =>
    simp only [isOp, Bool.and_eq_true, decide_eq_true_iff] at h
    exact ⟨v, by rw [h.2]⟩
  | ack => simp [isOp] at h
  | retire => simp [isOp] at h
  | _ =>
    simp only [isOp, Bool.and_eq_true, decide_eq_true_iff] at h
    exact absurd h.1 (by decide)
/-- the first two items of an operation -/
def opHead (wd key : Str) (o : Op) : Bool := PyData.eqv (.tuple (cutL (match opD o with | .tuple ds => ds | _ => []) none (some 2))) (.tuple [.str wd, .str key])
theorem opHead_is (wd key : Str) (o : Op) : opHead wd key o = isOp wd key o := by
  unfold opHead
  rw [cutL_take (by decide)]
  cases o <;> simp [opD, isOp, PyData.eqv, PyData.eqvAll] <;> rfl
/-- a world, let go as data -/
def worldD (S : Wd) : List (Key × PyData) := [(kEv, .list (S.es.map evD)), (kVe, .list (S.vs.map fun v => .list (v.map .int)))]
theorem freezeW {K : PySem.W.Frag} {Hr H : Hp} {S : Wd} {B : Own} (hl : S.ps.length = S.vs.length) (s : Sep K Hr (wcells S ++ B) H) : ∃ Hr', Same Hr Hr' ∧ Sep K Hr' ((S.pw, .k (worldD S)) :: B) H := by
  have e1 : vcells S.ps S.vs = List.zipWith (fun p ds => (p, Cell.l ds)) S.ps (S.vs.map fun v => v.map .int) := by
    unfold vcells
    rw [List.zipWith_map_right]
  have s1 := s.sub (O' := (S.pv, .o (.lst (S.ps.map V.ref))) :: (List.zipWith (fun p ds => (p, Cell.l ds)) S.ps (S.vs.map fun v => v.map .int) ++ ((S.pw, .o (.dK [(kEv, .ref S.pe), (kVe, .ref S.pv)])) :: (S.pe, .l (S.es.map evD)) :: B))) (Les.of (by
    unfold wcells
    rw [e1]
    generalize List.zipWith (fun p ds => (p, Cell.l ds)) S.ps (S.vs.map fun v => v.map PyData.int) = L
    have q : ∀ (a b c : Addr × Cell), (c :: (L ++ a :: b :: B)).Perm ((a :: b :: c :: L) ++ B) := fun a b c => by
      have q1 : (L ++ a :: b :: B).Perm (a :: b :: (L ++ B)) := List.perm_middle.trans (List.Perm.cons a List.perm_middle)
      refine (List.Perm.cons c q1).trans ?_
      exact (List.Perm.swap a c _).trans (List.Perm.cons a (List.Perm.swap b c _))
    exact q _ _ _))
  obtain ⟨Hr1, q1, s2⟩ := s1.freezeL (by rw [List.length_map]; exact hl)
  have s3 := s2.sub (O' := (S.pw, .o (.dK ([kEv, kVe].zip ([S.pe, S.pv].map V.ref)))) :: (List.zipWith (fun p ds => (p, Cell.l ds)) [S.pe, S.pv] [S.es.map evD, (S.vs.map fun v => v.map .int).map .list] ++ B)) (Les.of (by
    have q : ∀ (a b c : Addr × Cell), (b :: c :: a :: B).Perm (a :: b :: c :: B) := fun a b c => by
      exact (List.Perm.cons b (List.Perm.swap a c B)).trans (List.Perm.swap a b _)
    exact q _ _ _))
  obtain ⟨Hr2, q2, s4⟩ := s3.freezeD rfl rfl
  refine ⟨Hr2, q1.trans q2, ?_⟩
  have e2 : (S.vs.map fun v => v.map PyData.int).map PyData.list = S.vs.map fun v => PyData.list (v.map .int) := by rw [List.map_map]; rfl
  rw [e2] at s4
  exact s4
theorem zipD_len8 {xs ys : List Int} (h : xs.length ≤ 1000) : (zipD (xs.map PyData.int) (ys.map PyData.int)).length < sizeLine := by
  rw [zipD_ints, List.length_map, List.length_zip, sizeLine_eq]
  omega
theorem opShaped {o : Op} (ho : OpOk o) : ∃ ds, opD o = .tuple ds ∧ SeqAt.shaped (.tuple (cutL ds none (some 2))) = true := by
  have hs : ∀ z : Str, tOk z → PyData.strOk z = true := fun z hz => ts_ok hz.2
  have two : ∀ (x k : Str), PyData.strOk x = true → tOk k → SeqAt.shaped (.tuple [.str x, .str k]) = true := fun x k h1 h2 => shaped_mk (by simp [PyData.canLay0, PyData.canLayAll0, h1, hs k h2]) (by simp [PyData.depth, PyData.depthAll])
  cases o with
  | set k v => exact ⟨_, rfl, two _ k (by decide +kernel) ho.1⟩
  | inc k v => exact ⟨_, rfl, two _ k (by decide +kernel) ho⟩
  | add k v => exact ⟨_, rfl, two _ k (by decide +kernel) ho.1⟩
  | remove k v => exact ⟨_, rfl, two _ k (by decide +kernel) ho.1⟩
  | insert k p s => exact ⟨_, rfl, two _ k (by decide +kernel) ho.1⟩
  | erase k p => exact ⟨_, rfl, two _ k (by decide +kernel) ho⟩
  | ack w =>
    refine ⟨_, rfl, ?_⟩
    rw [cutL_take (by decide)]
    exact shaped_mk (by simp [PyData.canLay0, PyData.canLayAll0]; decide +kernel) (by simp [PyData.depth, PyData.depthAll])
  | retire =>
    refine ⟨_, rfl, ?_⟩
    rw [cutL_take (by decide)]
    exact shaped_mk (by simp [PyData.canLay0, PyData.canLayAll0]; decide +kernel) (by simp [PyData.depth, PyData.depthAll])
theorem leDot_data : (fun a b : Ev => leDot a b) = fun a b => PySem.W.dataLe false (fun d => d) (dotD a.dot) (dotD b.dot) := by
  funext a b
  have h := PySem.W.dataLe_rows (fun e : Ev => [e.site, e.n])
  have h2 := congrFun (congrFun h a) b
  exact h2.symm
theorem cutL_last {α : Type} (ds : List α) (x : α) : cutL (ds ++ [x]) none (some (-1)) = ds := by
  have h1 : HT.sIx (ds ++ [x]).length (ds ++ [x]).length (some (-1)) = ds.length := by
    simp only [HT.sIx]
    rw [if_pos (show (-1 : Int) < 0 by decide), List.length_append, List.length_singleton]
    omega
  have h2 : HT.sIx (ds ++ [x]).length 0 none = 0 := HT.sIx_none _ _
  unfold cutL
  rw [h1, h2, List.drop_zero, Nat.sub_zero]
  simp
theorem v_lay {v : PyData} (h : isV v) : v.canLay0 = true := by
  rcases h with ⟨i, rfl⟩ | ⟨z, rfl, _, hz⟩
  · rfl
  · exact ts_ok hz
theorem op_lay {o : Op} (h : OpOk o) : (opD o).canLay0 = true := by
  have hs : ∀ z : Str, tOk z → PyData.strOk z = true := fun z hz => ts_ok hz.2
  have w1 : PyData.strOk "set" = true := by decide +kernel
  have w2 : PyData.strOk "inc" = true := by decide +kernel
  have w3 : PyData.strOk "add" = true := by decide +kernel
  have w4 : PyData.strOk "remove" = true := by decide +kernel
  have w5 : PyData.strOk "insert" = true := by decide +kernel
  have w6 : PyData.strOk "erase" = true := by decide +kernel
  have w7 : PyData.strOk "ack" = true := by decide +kernel
  have w8 : PyData.strOk "retire" = true := by decide +kernel
  cases o with
  | set k v => simp [opD, PyData.canLay0, PyData.canLayAll0, v_lay h.2, hs _ h.1, w1]
  | inc k v => simp [opD, PyData.canLay0, PyData.canLayAll0, hs _ h, w2]
  | add k v => simp [opD, PyData.canLay0, PyData.canLayAll0, v_lay h.2, hs _ h.1, w3]
  | remove k v => simp [opD, PyData.canLay0, PyData.canLayAll0, v_lay h.2, hs _ h.1, w4]
  | insert k p s => cases p <;> simp [opD, placeD, dotD, PyData.canLay0, PyData.canLayAll0, hs _ h.1, hs _ h.2, w5]
  | erase k p => simp [opD, dotD, PyData.canLay0, PyData.canLayAll0, hs _ h, w6]
  | ack w => simp [opD, PyData.canLay0, PyData.canLayAll0, w7]
  | retire => simp [opD, PyData.canLay0, PyData.canLayAll0, w8]
theorem ev_lay {e : Ev} (h : EvOk e) : (evD e).canLay0 = true := by
  have h1 := vec_lay e.seen
  have h2 := op_lay h.2.2.2.2
  simp [evD, PyData.canLay0, PyData.canLayAll0]
  simp [PyData.canLay0] at h1
  exact ⟨h1, h2⟩
theorem evs_shaped {es : List Ev} (h : ∀ e ∈ es, EvOk e) : SeqAt.shaped (.list (es.map evD)) = true := by
  refine shaped_mk ?_ ?_
  · simp only [PyData.canLay0]
    exact canLayAll_map es fun e he => ev_lay (h e he)
  · simp only [PyData.depth]
    exact Nat.le_trans (Nat.succ_le_succ (depthAll_map (n := 3) es fun e he => depth_ev (h e he))) (by decide)
theorem vals_shaped {ds : List PyData} (h : ∀ d ∈ ds, isV d) : SeqAt.shaped (.list ds) = true := by
  have e : ds = ds.map fun d => d := (List.map_id' ds).symm
  refine shaped_mk ?_ ?_
  · simp only [PyData.canLay0]
    rw [e]
    exact canLayAll_map ds fun d hd => v_lay (h d hd)
  · simp only [PyData.depth]
    rw [e]
    exact Nat.le_trans (Nat.succ_le_succ (depthAll_map (n := 0) ds fun d hd => Nat.le_of_eq (depth_v (h d hd)))) (by decide)
theorem perm_map_inv {α β : Type} {f : α → β} {l m : List β} (h : l.Perm m) : ∀ es : List α, m = es.map f → ∃ es' : List α, es'.Perm es ∧ l = es'.map f := by
  induction h with
  | nil => intro es e; exact ⟨[], by rw [List.map_eq_nil_iff.mp e.symm], rfl⟩
  | cons x _ ih =>
    intro es e
    cases es with
    | nil => cases e
    | cons a es =>
      rw [List.map_cons] at e
      injection e with e1 e2
      obtain ⟨es', h1, h2⟩ := ih es e2
      exact ⟨a :: es', h1.cons a, by rw [List.map_cons, h2, e1]⟩
  | swap x y l =>
    intro es e
    match es, e with
    | a :: b :: es, e =>
      simp only [List.map_cons, List.cons.injEq] at e
      obtain ⟨e1, e2, e3⟩ := e
      exact ⟨b :: a :: es, List.Perm.swap a b es, by simp [e1, e2, e3]⟩
    | [], e => simp at e
    | [_], e => simp at e
  | trans _ _ ih1 ih2 =>
    intro es e
    obtain ⟨es2, h1, h2⟩ := ih2 es e
    obtain ⟨es3, h3, h4⟩ := ih1 es2 h2
    exact ⟨es3, h3.trans h1, h4⟩
theorem val_evW (S : Wd) : valD (worldD S) kEv = some (.list (S.es.map evD)) := by
  unfold worldD valD
  simp
theorem val_veW (S : Wd) : valD (worldD S) kVe = some (.list (S.vs.map fun v => .list (v.map .int))) := by
  have h : decide (("events" : Str) = "vectors") = false := by decide
  unfold worldD valD
  simp [List.find?_cons, h]
/-- before a statement: a world is let go -/
theorem turnW {S : Wd} {B : Own} (x : Addr × Cell) (hl : S.ps.length = S.vs.length) {K : PySem.W.Frag} {Hr H : Hp} (s : Sep K Hr (x :: (wcells S ++ B)) H) : ∃ Hr', Same Hr Hr' ∧ Sep K Hr' ((S.pw, .k (worldD S)) :: x :: B) H :=
  freezeW hl (s.sub (O' := wcells S ++ x :: B) (Les.of List.perm_middle))
end WL

set_option Elab.async false
set_option linter.all false
set_option maxRecDepth 100000
set_option maxHeartbeats 2000000
/-! owned dicts of data: {}, d.get(k, x), d[k] = v -/
namespace DL
open PySem PySem.Spec PyProof.Rows L2
section
variable {X : Cx} {τ : Tau} {O : Own} {P : W → Own → Prop} {D : DEn} {o e f i : Expr} {pos apos cpos : Pos}
/-- {} -/
theorem de_dnewK (h : ∀ p, P (.r (.ref p)) ((p, .k []) :: O)) : DE X τ O (.Dict [] [] pos) P := ⟨fun σ Hr H Q hE hS hQ pins s I =>
  pe_dnewK.run pins s σ H Q I fun p hp => hQ _ _ ⟨_, _, Hr, h p, Same.refl _, hS.newOwn hp ⟨[], upd_same, .nil⟩, rfl⟩⟩
theorem get_k {K : PySem.W.Frag} {Hr : Hp} {vs : List (Key × V)} {kvs : List (Key × PyData)} {k : Key} {v : V} {d : PyData} (kd : KD K Hr vs kvs) (h : Dv K Hr v d) : Dv K Hr ((valV vs k).getD v) ((valD kvs k).getD d) := by
  rcases kd.val k with ⟨a, b⟩ | ⟨u, e, a, b, c⟩
  · rw [a, b]
    exact h
  · rw [a, b]
    exact c
/-- d.get(k, x) -/
theorem de_dget2 (hu : X.A.units + 1 < cLine) (h : DE X τ O o fun w1 O1 => ∃ (p : Addr) (j : Nat) (kvs : List (Key × PyData)), w1 = .r (.ref p) ∧ O1[j]? = some (p, .k kvs) ∧ DE X τ O1 e fun w2 O2 => DE X τ O2 f fun w3 O3 => ∃ (j2 : Nat) (kvs2 : List (Key × PyData)) (k : Key) (d : PyData),
      O3[j2]? = some (p, .k kvs2) ∧ w2 = .d (keyD k) ∧ w3 = .d d ∧ P (.d ((valD kvs2 k).getD d)) O3)
    (m : M2 X o "get" apos e f cpos) : DE X τ O (.Call (.Attribute o "get" apos) [e, f] [] cpos) P := by
  refine ⟨?_⟩
  intro σ Hr H Q hE hS hQ pins s I
  refine (pe_dget2 hu pe_te pe_te pe_te m).run pins s σ H Q I ?_
  refine h σ Hr H _ hE hS fun x H1 ⟨w1, O1, Hr1, ⟨p, j, kvs, hw, hj, h1⟩, e1, s1, k1⟩ => ?_
  subst hw
  cases k1
  obtain ⟨vs, v1, -⟩ := s1.cell hj
  refine ⟨p, rfl, .inl ⟨_, .inl v1⟩, ?_⟩
  refine h1 σ Hr1 H1 _ (hE.mono e1) s1 fun y H2 ⟨w2, O2, Hr2, h2, e2, s2, k2⟩ => ?_
  refine h2 σ Hr2 H2 _ (hE.mono (e1.trans e2)) s2 fun z H3 ⟨w3, O3, Hr3, ⟨j2, kvs2, k, d, hj2, q2, q3, hP⟩, e3, s3, k3⟩ => ?_
  subst q2 q3
  obtain ⟨us, u1, u2⟩ := s3.cell hj2
  obtain rfl := keyD_v (k2.mono e3)
  exact ⟨_, DGet.k u1, hQ _ _ ⟨_, O3, Hr3, hP, (e1.trans e2).trans e3, s3, get_k u2 k3⟩⟩
/-- d[k] = v -/
theorem ds_subK {pos' : Pos} (hu : X.A.units + 1 < cLine) (h : DE X τ O e fun w O1 => DE X τ O1 o fun wo O2 => DE X τ O2 i fun wi O3 =>
      ∃ (p : Addr) (j : Nat) (kvs : List (Key × PyData)) (k : Key) (d : PyData), w = .d d ∧ wo = .r (.ref p) ∧ wi = .d (keyD k) ∧ O3[j]? = some (p, .k kvs) ∧ kvs.length < sizeLine ∧ D.nx τ (O3.set j (p, .k (putD kvs k d))))
    (hs : swapsWithSole [.Subscript o i pos'] e pos.line X.env = pure false := by rfl) (hw : swappedStores [.Subscript o i pos'] e X.env = pure none := by rfl)
    (h1 : (assignEach [.Subscript o i pos'] X.env).map (·.2) = [assign (.Subscript o i pos') X.env] := by rfl)
    (ha : ∀ v, assign (.Subscript o i pos') X.env v = (do
      let ov ← holding [v] (eval o X.env)
      let iv ← holding [v, ov] (eval i X.env)
      standAt pos'
      holding [v, ov, iv] (setItem ov iv v)
      release [v, ov, iv] []) := by intro _; rfl) : DS X τ O (.Assign [.Subscript o i pos'] e pos) D := by
  refine ⟨?_⟩
  intro σ Hr H E hE hS hD pins s I
  refine (ps_asg pe_te (pg_sub pe_te pe_te (set_dict hu) ha) hs hw h1).run pins s σ H E I ?_
  refine h σ Hr H _ hE hS fun v1 H1 ⟨w1, O1, Hr1, h1, e1, s1, k1⟩ => ?_
  refine h1 σ Hr1 H1 _ (hE.mono e1) s1 fun v2 H2 ⟨w2, O2, Hr2, h2, e2, s2, k2⟩ => ?_
  refine h2 σ Hr2 H2 _ (hE.mono (e1.trans e2)) s2 fun v3 H3 ⟨w3, O3, Hr3, ⟨p, j, kvs, k, d, q1, q2, q3, hj, hz, hx⟩, e3, s3, k3⟩ => ?_
  subst q1 q2 q3
  cases k2
  obtain rfl := keyD_v k3
  obtain ⟨us, u1, u2⟩ := s3.cell hj
  have kd : Dv X.K Hr3 v1 d := dv_mono (e2.trans e3) k1
  exact ⟨p, _, rfl, DPut.k u1 (by rw [u2.len]; exact hz), hD.nx _ _ ⟨_, _, Hr3, hx, (e1.trans e2).trans e3, s3.put hj ⟨_, upd_same, u2.put kd⟩, hE.mono ((e1.trans e2).trans e3)⟩⟩
end
end DL

set_option Elab.async false
set_option linter.all false
set_option maxRecDepth 100000
set_option maxHeartbeats 2000000
/-! dicts whose keys are values of any kind that hash and compare quietly (None and tuples, mixed): find, get, setdefault -/
namespace ND
open PySem PySem.Spec PyProof.Rows
open Sem (wp)
/-- a kind of keys -/
structure Kn (P : Program) (w : World) (κ : Type) [DecidableEq κ] where
  at_ : Heap → κ → Value → Prop
  hs : κ → Int
  tk : κ → Nat
  rm : Around → Prop
  one : ∀ {h : Heap} {v : Value} {x y : κ}, at_ h x v → at_ h y v → x = y
  fm : ∀ {h : Heap} {v : Value} {x : κ}, at_ h x v → v = .none ∨ ∃ a, v = .ref a
  stay : ∀ {h h' : Heap} {k : κ} {v : Value} {d : Addr} {o : Obj} {es ep}, at_ h k v → h.get? d = some o → o.data = .dict es ep → Heap.SameBut d h h' → at_ h' k v
  hash : ∀ {A : Around} {E : Value → Shared → Prop} {s : Shared} {k : κ} {v : Value} {Q : Int → Shared → Prop}, rm A → at_ s.heap k v → Q (hs k) { s with toks := s.toks + tk k } → wpAny (model P w) A (pyHash v) Q E s
  same : ∀ {A : Around} {E : Value → Shared → Prop} {s : Shared} {x y : κ} {u v : Value} {Q : Bool → Shared → Prop}, rm A → at_ s.heap x u → at_ s.heap y v → Q (decide (x = y)) s → wpAny (model P w) A (eqBool u v) Q E s
  calm : ∀ {A : Around} {E : Value → Shared → Prop} {s : Shared} {k : κ} {v : Value} {Q : Bool → Shared → Prop}, at_ s.heap k v → Q true s → wpAny (model P w) A (eqIsQuiet 8 v) Q E s
abbrev Row (κ : Type) := κ × Value × Value
section
variable {κ : Type} [DecidableEq κ]
def look (rs : List (Row κ)) (k : κ) : Option Value := (rs.find? fun r => decide (r.1 = k)).map (·.2.2)
theorem look_at {rs : List (Row κ)} (nd : (rs.map (·.1)).Nodup) : ∀ {i : Nat} {k : κ} {p : Value × Value}, rs[i]? = some (k, p) → look rs k = some p.2 := by
  induction rs with
  | nil => intro i k p h; simp at h
  | cons r rs ih =>
    intro i k p h
    rw [List.map_cons, List.nodup_cons] at nd
    unfold look
    cases i with
    | zero =>
      simp at h
      subst h
      simp
    | succ i =>
      have h' : rs[i]? = some (k, p) := by simpa using h
      have hm : k ∈ rs.map (·.1) := List.mem_map.mpr ⟨_, List.mem_of_getElem? h', rfl⟩
      have ne : ¬ r.1 = k := fun e => nd.1 (e ▸ hm)
      rw [List.find?_cons_of_neg (by simpa using ne)]
      exact ih nd.2 h'
theorem look_no {rs : List (Row κ)} {k : κ} (h : ∀ (i : Nat) (p : Value × Value), rs[i]? ≠ some (k, p)) : look rs k = none := by
  unfold look
  have : (rs.find? fun r => decide (r.1 = k)) = none := by
    rw [List.find?_eq_none]
    intro r hr e
    obtain ⟨i, hi⟩ := List.mem_iff_getElem?.mp hr
    have e' : r.1 = k := of_decide_eq_true e
    exact h i r.2 (by rw [hi, ← e'])
  rw [this]
  rfl
theorem look_out {rs : List (Row κ)} {k : κ} (h : look rs k = none) : k ∉ rs.map (·.1) := fun m => by
  obtain ⟨r, hr, e⟩ := List.mem_map.mp m
  unfold look at h
  rw [Option.map_eq_none_iff, List.find?_eq_none] at h
  exact h r hr (by simpa using e)
theorem uni {rs : List (Row κ)} (nd : (rs.map (·.1)).Nodup) {i j : Nat} {k : κ} {p q : Value × Value} (hi : rs[i]? = some (k, p)) (hj : rs[j]? = some (k, q)) : i = j := by
  have a : (rs.map (·.1))[i]? = some k := by rw [List.getElem?_map, hi]; rfl
  have b : (rs.map (·.1))[j]? = some k := by rw [List.getElem?_map, hj]; rfl
  exact (List.getElem?_inj (List.getElem?_eq_some_iff.mp a).1 nd).mp (a.trans b.symm)
end
section
variable {P : Program} {w : World} {κ : Type} [DecidableEq κ] (kn : Kn P w κ)
def ent (r : Row κ) : DictEntry := ⟨kn.hs r.1, r.2.1, r.2.2⟩
/-- the dict at d has just these rows -/
structure Has (h : Heap) (d : Addr) (rs : List (Row κ)) : Prop where
  obj : ∃ o es ep, h.get? d = some o ∧ o.ExactDict ∧ o.data = .dict es ep ∧ es.toList = rs.map (ent kn)
  key : ∀ r ∈ rs, kn.at_ h r.1 r.2.1
  nd : (rs.map (·.1)).Nodup
end
section
variable {P : Program} {w : World} {κ : Type} [DecidableEq κ] {kn : Kn P w κ} {A : Around} {E : Value → Shared → Prop} {s : Shared}
theorem tells {v : Value} {k : κ} {st : List Value} {Q : Bool → Shared → Prop} (hk : kn.at_ s.heap k v) (hst : ∀ u ∈ st, ∃ j, kn.at_ s.heap j u) (h : Q false s) : wpAny (model P w) A (tableMayTell v st) Q E s := by
  unfold tableMayTell
  split
  · exact wpAny_pure h
  refine wpAny_bind (kn.calm hk ?_)
  simp only [Bool.not_true, Bool.false_eq_true, if_false]
  refine wpAny_bind ?_
  refine wpAny_forIn_list _ (fun rest r t => t = s ∧ r = (none, ()) ∧ ∀ u ∈ rest, ∃ j, kn.at_ s.heap j u) _ (fun u rest r t hI => ?_) (fun r t hI => ?_) _ _ ⟨rfl, rfl, hst⟩
  · obtain ⟨e1, e2, hr⟩ := hI
    subst e1 e2
    obtain ⟨j, hj⟩ := hr u List.mem_cons_self
    refine wpAny_bind (kn.calm hj ?_)
    simp only [Bool.not_true, Bool.false_eq_true, if_false]
    exact wpAny_pure ⟨rfl, rfl, fun x hx => hr x (List.mem_cons_of_mem _ hx)⟩
  · obtain ⟨e1, e2, -⟩ := hI
    subst e1 e2
    exact wpAny_pure h
theorem eAt {es : Array DictEntry} {rs : List (Row κ)} (he : es.toList = rs.map (ent kn)) (j : Nat) : es[j]? = (rs[j]?).map (ent kn) := by
  rw [← Array.getElem?_toList, he, List.getElem?_map]
theorem eSize {es : Array DictEntry} {rs : List (Row κ)} (he : es.toList = rs.map (ent kn)) : es.size = rs.length := by
  rw [← Array.length_toList, he, List.length_map]
/-- what stands so far of a search among the first i rows -/
def Sofar (rs : List (Row κ)) (k : κ) (i : Nat) (hit : Option Nat) : Prop := (hit = none ∧ ∀ j p, j < i → rs[j]? ≠ some (k, p)) ∨ ∃ j p, hit = some j ∧ j < i ∧ rs[j]? = some (k, p)
/-- the places of one hash, from i on -/
def plc (es : Array DictEntry) (hk : Int) (i : Nat) : List Nat := (List.range' i (es.size - i)).filter fun j => (es[j]?.map (·.hash)) == some hk
theorem plc_all (es : Array DictEntry) (hk : Int) : placesWithHash es.size (fun i => es[i]?.map (·.hash)) hk = plc es hk 0 := by
  unfold placesWithHash plc
  rw [List.range_eq_range', Nat.sub_zero]
theorem hash_of {es : Array DictEntry} {rs : List (Row κ)} (he : es.toList = rs.map (ent kn)) {k : κ} {j : Nat} {p : Value × Value} (hj : rs[j]? = some (k, p)) : ((es[j]?.map (·.hash)) == some (kn.hs k)) = true := by
  rw [eAt he j, hj]
  simp [ent]
/-- one step: the next place of the hash -/
theorem plc_step {es : Array DictEntry} {rs : List (Row κ)} (he : es.toList = rs.map (ent kn)) {k : κ} {i x : Nat} {rest : List Nat} (h : x :: rest = plc es (kn.hs k) i) (hi : i ≤ es.size) {hit : Option Nat} (hs : Sofar rs k i hit) :
    x < es.size ∧ rest = plc es (kn.hs k) (x + 1) ∧ Sofar rs k x hit := by
  unfold plc at h
  obtain ⟨a1, a2, -, a4, a5⟩ := filter_range'_cons _ _ _ _ _ h.symm
  have hx : x < es.size := by omega
  refine ⟨hx, ?_, ?_⟩
  · rw [a5]
    unfold plc
    congr 2
    omega
  · rcases hs with ⟨q, no⟩ | ⟨j, p, q, l, hj⟩
    · refine .inl ⟨q, fun j p l hj => ?_⟩
      by_cases c : j < i
      · exact no j p c hj
      · have := a4 j (by omega) l
        rw [hash_of he hj] at this
        cases this
    · exact .inr ⟨j, p, q, by omega, hj⟩
theorem plc_end {es : Array DictEntry} {rs : List (Row κ)} (he : es.toList = rs.map (ent kn)) {k : κ} {i : Nat} (h : [] = plc es (kn.hs k) i) (hi : i ≤ es.size) {hit : Option Nat} (hs : Sofar rs k i hit) : Sofar rs k es.size hit := by
  rcases hs with ⟨q, no⟩ | ⟨j, p, q, l, hj⟩
  · refine .inl ⟨q, fun j p l hj => ?_⟩
    by_cases c : j < i
    · exact no j p c hj
    · have := List.filter_eq_nil_iff.mp h.symm j (List.mem_range'_1.mpr ⟨by omega, by omega⟩)
      exact this (hash_of he hj)
  · exact .inr ⟨j, p, q, by omega, hj⟩
theorem sofar_no {rs : List (Row κ)} {k : κ} {x : Nat} {hit : Option Nat} (h : Sofar rs k x hit) (ne : ∀ p, rs[x]? ≠ some (k, p)) : Sofar rs k (x + 1) hit := by
  rcases h with ⟨q, no⟩ | ⟨j, p, q, l, hj⟩
  · refine .inl ⟨q, fun j p l hj => ?_⟩
    by_cases c : j < x
    · exact no j p c hj
    · have e : j = x := by omega
      subst e
      exact ne p hj
  · exact .inr ⟨j, p, q, by omega, hj⟩
theorem found {d : Addr} {v : Value} {o : Obj} {es ep} {rs : List (Row κ)} {k : κ} {Q : Option Nat → Shared → Prop} (hr : kn.rm A) (hk : kn.at_ s.heap k v) (ho : s.heap.get? d = some o) (hd : o.data = .dict es ep) (he : es.toList = rs.map (ent kn)) (hky : ∀ r ∈ rs, kn.at_ s.heap r.1 r.2.1) (nd : (rs.map (·.1)).Nodup)
    (q0 : (∀ (j : Nat) (p : Value × Value), rs[j]? ≠ some (k, p)) → Q none s) (q1 : ∀ (j : Nat) (p : Value × Value), rs[j]? = some (k, p) → Q (some j) s) : wpAny (model P w) A (dictFind d v (kn.hs k)) Q E s := by
  have hsz : es.size = rs.length := eSize he
  have fin : ∀ hit, Sofar rs k es.size hit → Q hit s := fun hit hf => by
    rcases hf with ⟨rfl, no⟩ | ⟨j, p, rfl, l, hj⟩
    · refine q0 fun j p hj => no j p ?_ hj
      rw [hsz]
      exact (List.getElem?_eq_some_iff.mp hj).1
    · exact q1 j p hj
  have row : ∀ {x : Nat}, x < es.size → ∃ k' u y, rs[x]? = some (k', u, y) ∧ kn.at_ s.heap k' u ∧ es[x]? = some ⟨kn.hs k', u, y⟩ := fun {x} hx => by
    have hx' : x < rs.length := by rw [← hsz]; exact hx
    have e : rs[x]? = some rs[x] := List.getElem?_eq_getElem hx'
    refine ⟨rs[x].1, rs[x].2.1, rs[x].2.2, e, hky _ (List.getElem_mem hx'), ?_⟩
    rw [eAt he x, e]
    rfl
  have mem : ∀ e ∈ es, ∃ r ∈ rs, e = ent kn r := fun e hin => by
    have : e ∈ rs.map (ent kn) := he ▸ Array.mem_toList_iff.mpr hin
    obtain ⟨x, hx, rfl⟩ := List.mem_map.mp this
    exact ⟨x, hx, rfl⟩
  have hst : ∀ u ∈ (plc es (kn.hs k) 0).filterMap (fun i => es[i]?.map (·.key)), ∃ j, kn.at_ s.heap j u := fun u hu => by
    obtain ⟨i, _, hi⟩ := List.mem_filterMap.mp hu
    cases hei : es[i]? with
    | none => rw [hei] at hi; cases hi
    | some e =>
      rw [hei] at hi
      obtain rfl : e.key = u := by simpa using hi
      obtain ⟨x, hx, rfl⟩ := mem e (Array.mem_of_getElem? hei)
      exact ⟨x.1, hky x hx⟩
  have hany : ∀ a, v = .ref a → ¬ (es.any fun e => e.key == Value.ref a && e.hash != kn.hs k) = true := fun a ea => by
    rw [← Array.any_toList, List.any_eq_true]
    rintro ⟨e, hin, hc⟩
    obtain ⟨x, hx, rfl⟩ := mem e (Array.mem_toList_iff.mp hin)
    simp only [ent, Bool.and_eq_true, beq_iff_eq, bne_iff_ne, ne_eq] at hc
    obtain ⟨hxa, hne⟩ := hc
    have := hky x hx
    rw [hxa, ← ea] at this
    exact hne (by rw [kn.one this hk])
  have walk : wpAny (model P w) A (dictWalkPlain d v (kn.hs k) es (plc es (kn.hs k) 0)) Q E s := by
    refine wpAny_bind ?_
    refine wpAny_forIn_list _
      (fun rest b s' => s' = s ∧ b = (none, ()) ∧ ∃ i, rest = plc es (kn.hs k) i ∧ i ≤ es.size ∧ Sofar rs k i none) _ ?_ ?_ _ _
      ⟨rfl, rfl, 0, rfl, Nat.zero_le _, .inl ⟨rfl, fun _ _ h => absurd h (Nat.not_lt_zero _)⟩⟩
    · rintro x rest b s' ⟨rfl, rfl, i, hr', hi, hH⟩
      obtain ⟨hlt, hrest, hHx⟩ := plc_step he hr' hi hH
      obtain ⟨k', u, y, hkv, hib, hex⟩ := row hlt
      rw [hex]
      dsimp only
      by_cases hh : (kn.hs k' == kn.hs k) = true
      · rw [if_pos hh]
        refine wpAny_bind (wpAny_dictEpoch ho hd (wpAny_bind (kn.same (x := k') (y := k) hr hib hk (wpAny_bind (wpAny_dictEpoch ho hd ?_)))))
        show wpAny _ _ (if (ep != ep) = true then _ else _) _ E _
        rw [if_neg (by simp)]
        by_cases hkk : k' = k
        · rw [decide_eq_true hkk]
          subst hkk
          exact wpAny_bind (wpAny_rule (wpAny_pure (wpAny_pure (q1 x _ hkv))))
        · rw [decide_eq_false hkk]
          refine wpAny_bind (wpAny_rule (wpAny_pure ⟨rfl, rfl, x + 1, hrest, hlt, sofar_no hHx fun p e => ?_⟩))
          rw [hkv] at e
          injection e with e
          injection e with e
          exact hkk e
      · rw [if_neg hh]
        refine wpAny_pure ⟨rfl, rfl, x + 1, hrest, hlt, sofar_no hHx fun p e => ?_⟩
        rw [hkv] at e
        injection e with e
        injection e with e
        rw [e] at hh
        simp at hh
    · rintro b s' ⟨rfl, rfl, i, hr', hi, hH⟩
      exact wpAny_pure (fin none (plc_end he hr' hi hH))
  unfold dictFind
  try with_reducible refine wpAny_holding ?_
  refine wpAny_bind (wpAny_dictEntries ho hd ?_)
  dsimp only
  rw [plc_all]
  rcases kn.fm hk with ev | ⟨a, ev⟩
  · rw [ev]
    dsimp only
    rw [← ev]
    by_cases hall : ((v :: (plc es (kn.hs k) 0).filterMap (fun i => es[i]?.map (·.key))).all carriedByValue) = true
    · rw [if_pos hall]
      exact walk
    · rw [if_neg hall]
      by_cases hone : (((plc es (kn.hs k) 0).filterMap (fun i => es[i]?.map (·.key))) == [v]) = true <;>
        (first | rw [if_pos hone] | rw [if_neg hone]) <;> (first | refine wpAny_bind (wpAny_pure ?_) | refine wpAny_bind (tells hk hst ?_)) <;> (
          rw [if_neg (show ¬ ((false && _) = true) from fun h => nomatch h)]
          refine wpAny_bind ?_
          refine wpAny_forIn_list _
            (fun rest b s' => s' = s ∧ ∃ i hit, b = (none, hit) ∧ rest = plc es (kn.hs k) i ∧ i ≤ es.size ∧ Sofar rs k i hit) _ ?_ ?_ _ _
            ⟨rfl, 0, none, rfl, rfl, Nat.zero_le _, .inl ⟨rfl, fun _ _ h => absurd h (Nat.not_lt_zero _)⟩⟩
          · rintro x rest b s' ⟨rfl, i, hit, rfl, hr', hi, hH⟩
            obtain ⟨hlt, hrest, hHx⟩ := plc_step he hr' hi hH
            obtain ⟨k', u, y, hkv, hib, hex⟩ := row hlt
            rw [hex]
            dsimp only
            by_cases hh : (kn.hs k' == kn.hs k) = true
            · rw [if_pos hh]
              refine wpAny_bind (wpAny_dictEpoch ho hd (wpAny_bind (kn.same (x := k') (y := k) hr hib hk (wpAny_bind (wpAny_dictEpoch ho hd ?_)))))
              show wpAny _ _ (if (ep != ep) = true then _ else _) _ E _
              rw [if_neg (show ¬ (ep != ep) = true by simp)]
              by_cases hkk : k' = k
              · rw [decide_eq_true hkk]
                subst hkk
                rcases hHx with ⟨rfl, _⟩ | ⟨j, p, _, hjx, hj⟩
                · first | rw [if_pos rfl] | skip
                  simp only [Option.isSome_none, Bool.false_eq_true, if_false]
                  first | refine wpAny_bind (wpAny_pure ?_) | skip
                  refine wpAny_bind (wpAny_rule ?_)
                  split
                  · exact wpAny_pure (wpAny_pure (q1 x _ hkv))
                  · exact wpAny_pure ⟨rfl, x + 1, some x, rfl, hrest, hlt, .inr ⟨x, _, rfl, Nat.lt_succ_self x, hkv⟩⟩
                · exact absurd (uni nd hj hkv) (by omega)
              · rw [decide_eq_false hkk]
                have hno : ∀ p, rs[x]? ≠ some (k, p) := fun p e => by
                  rw [hkv] at e
                  injection e with e
                  injection e with e
                  exact hkk e
                simp only [Bool.false_eq_true, if_false]
                refine wpAny_bind (wpAny_rule ?_)
                first | rw [if_neg (show ¬ ((false && _) = true) from fun h => nomatch h)] | skip
                first
                  | exact wpAny_pure ⟨rfl, x + 1, hit, rfl, hrest, hlt, sofar_no hHx hno⟩
                  | exact wpAny_bind (wpAny_pure (wpAny_pure ⟨rfl, x + 1, hit, rfl, hrest, hlt, sofar_no hHx hno⟩))
            · rw [if_neg hh]
              refine wpAny_pure ⟨rfl, x + 1, hit, rfl, hrest, hlt, sofar_no hHx fun p e => ?_⟩
              rw [hkv] at e
              injection e with e
              injection e with e
              rw [e] at hh
              simp at hh
          · rintro b s' ⟨rfl, i, hit, rfl, hr', hi, hH⟩
            exact wpAny_pure (fin hit (plc_end he hr' hi hH)))
  · rw [ev]
    dsimp only
    rw [if_neg (show ¬ ((Value.ref a :: (plc es (kn.hs k) 0).filterMap (fun i => es[i]?.map (·.key))).all carriedByValue) = true by simp [carriedByValue])]
    rw [if_neg (hany a ev), ← ev]
    by_cases hone : (((plc es (kn.hs k) 0).filterMap (fun i => es[i]?.map (·.key))) == [v]) = true <;>
    (first | rw [if_pos hone] | rw [if_neg hone]) <;> (first | refine wpAny_bind (wpAny_pure ?_) | refine wpAny_bind (tells hk hst ?_)) <;> (
      rw [if_neg (show ¬ ((false && _) = true) from fun h => nomatch h)]
      refine wpAny_bind ?_
      refine wpAny_forIn_list _
        (fun rest b s' => s' = s ∧ ∃ i hit, b = (none, hit) ∧ rest = plc es (kn.hs k) i ∧ i ≤ es.size ∧ Sofar rs k i hit) _ ?_ ?_ _ _
        ⟨rfl, 0, none, rfl, rfl, Nat.zero_le _, .inl ⟨rfl, fun _ _ h => absurd h (Nat.not_lt_zero _)⟩⟩
      · rintro x rest b s' ⟨rfl, i, hit, rfl, hr', hi, hH⟩
        obtain ⟨hlt, hrest, hHx⟩ := plc_step he hr' hi hH
        obtain ⟨k', u, y, hkv, hib, hex⟩ := row hlt
        rw [hex]
        dsimp only
        by_cases hh : (kn.hs k' == kn.hs k) = true
        · rw [if_pos hh]
          refine wpAny_bind (wpAny_dictEpoch ho hd (wpAny_bind (kn.same (x := k') (y := k) hr hib hk (wpAny_bind (wpAny_dictEpoch ho hd ?_)))))
          show wpAny _ _ (if (ep != ep) = true then _ else _) _ E _
          rw [if_neg (show ¬ (ep != ep) = true by simp)]
          by_cases hkk : k' = k
          · rw [decide_eq_true hkk]
            subst hkk
            rcases hHx with ⟨rfl, _⟩ | ⟨j, p, _, hjx, hj⟩
            · first | rw [if_pos rfl] | skip
              simp only [Option.isSome_none, Bool.false_eq_true, if_false]
              first | refine wpAny_bind (wpAny_pure ?_) | skip
              refine wpAny_bind (wpAny_rule ?_)
              split
              · exact wpAny_pure (wpAny_pure (q1 x _ hkv))
              · exact wpAny_pure ⟨rfl, x + 1, some x, rfl, hrest, hlt, .inr ⟨x, _, rfl, Nat.lt_succ_self x, hkv⟩⟩
            · exact absurd (uni nd hj hkv) (by omega)
          · rw [decide_eq_false hkk]
            have hno : ∀ p, rs[x]? ≠ some (k, p) := fun p e => by
              rw [hkv] at e
              injection e with e
              injection e with e
              exact hkk e
            simp only [Bool.false_eq_true, if_false]
            refine wpAny_bind (wpAny_rule ?_)
            first | rw [if_neg (show ¬ ((false && _) = true) from fun h => nomatch h)] | skip
            first
              | exact wpAny_pure ⟨rfl, x + 1, hit, rfl, hrest, hlt, sofar_no hHx hno⟩
              | exact wpAny_bind (wpAny_pure (wpAny_pure ⟨rfl, x + 1, hit, rfl, hrest, hlt, sofar_no hHx hno⟩))
        · rw [if_neg hh]
          refine wpAny_pure ⟨rfl, x + 1, hit, rfl, hrest, hlt, sofar_no hHx fun p e => ?_⟩
          rw [hkv] at e
          injection e with e
          injection e with e
          rw [e] at hh
          simp at hh
      · rintro b s' ⟨rfl, i, hit, rfl, hr', hi, hH⟩
        exact wpAny_pure (fin hit (plc_end he hr' hi hH)))
end
end ND
namespace ND
open PySem PySem.Spec PyProof.Rows
open Sem (wp)
section
variable {P : Program} {w : World} {κ : Type} [DecidableEq κ] {kn : Kn P w κ} {A : Around} {E : Value → Shared → Prop} {s : Shared}
theorem Has.typeIs {d : Addr} {rs : List (Row κ)} (h : Has kn s.heap d rs) : s.TypeIs (.ref d) "dict" := let ⟨o, _, _, ho, hc, _⟩ := h.obj; ⟨o, ho, hc.1⟩
theorem look_row {rs : List (Row κ)} (nd : (rs.map (·.1)).Nodup) {k : κ} {Q : Option Value → Prop} (h : Q (look rs k)) :
    ((∀ (j : Nat) (p : Value × Value), rs[j]? ≠ some (k, p)) → Q none) ∧ ∀ (j : Nat) (p : Value × Value), rs[j]? = some (k, p) → Q (some p.2) :=
  ⟨fun no => look_no no ▸ h, fun _ _ e => look_at nd e ▸ h⟩
theorem get_ {d : Addr} {v : Value} {k : κ} {rs : List (Row κ)} {Q : Option Value → Shared → Prop} (hr : kn.rm A) (hk : kn.at_ s.heap k v) (hh : Has kn s.heap d rs)
    (st : ∀ t, kn.at_ ({ s with toks := t } : Shared).heap k v := by exact fun _ => hk) (h : Q (look rs k) { s with toks := s.toks + kn.tk k }) : wpAny (model P w) A (dictGet d v) Q E s := by
  obtain ⟨⟨o, es, ep, ho, hc, hd, he⟩, hky, nd⟩ := hh
  unfold dictGet
  try with_reducible refine wpAny_holding ?_
  refine wpAny_bind (kn.hash hr hk (wpAny_bind (found (s := { s with toks := s.toks + kn.tk k }) hr hk ho hd he hky nd ?_ ?_)))
  · intro no
    rw [look_no no] at h
    exact wpAny_pure h
  · intro j p hj
    rw [look_at nd hj] at h
    refine wpAny_bind (wpAny_dictEntries (s := { s with toks := s.toks + kn.tk k }) ho hd ?_)
    rw [eAt he j, hj]
    exact wpAny_pure h
theorem setdef_ {d : Addr} {v dflt : Value} {k : κ} {rs : List (Row κ)} {Q : Value → Shared → Prop} (hr : kn.rm A) (hk : kn.at_ s.heap k v) (hh : Has kn s.heap d rs) (hsz : rs.length ≤ sizeLine)
    (h1 : ∀ u, look rs k = some u → Q u { s with toks := s.toks + kn.tk k })
    (h2 : look rs k = none → ∀ h', Has kn h' d (rs ++ [(k, v, dflt)]) → Heap.SameBut d s.heap h' → Q dflt { s with heap := h', toks := s.toks + kn.tk k }) : wpAny (model P w) A (dictSetDefault d v dflt) Q E s := by
  obtain ⟨⟨o, es, ep, ho, hc, hd, he⟩, hky, nd⟩ := hh
  unfold dictSetDefault
  try with_reducible refine wpAny_holding ?_
  refine wpAny_bind (kn.hash hr hk ?_)
  refine wpAny_bind (found (s := { s with toks := s.toks + kn.tk k }) hr hk ho hd he hky nd ?_ ?_)
  · intro no
    have ln := look_no no
    refine wpAny_bind (wpAny_rule (wpAny_bind (wpAny_updateDictKeys (hz := by have e := eSize he; omega) (s := { s with toks := s.toks + kn.tk k }) ho hd (wpAny_pure (h2 ln _ ⟨⟨_, _, ep + 1, Heap.get?_update_self _ ho (Obj.isFreed_of_dict (Obj.data_mapDictKeys hd _)),
      hc.mapDictKeys _, Obj.data_mapDictKeys hd _, ?_⟩, ?_, ?_⟩ (Heap.SameBut.update ..))))))
    · simp [he, ent]
    · intro x hx
      rcases List.mem_append.mp hx with hx | hx
      · exact kn.stay (hky x hx) ho hd (Heap.SameBut.update ..)
      · simp only [List.mem_singleton] at hx
        subst hx
        exact kn.stay hk ho hd (Heap.SameBut.update ..)
    · rw [List.map_append, List.nodup_append]
      refine ⟨nd, by simp, ?_⟩
      intro x hx y hy
      simp only [List.map_cons, List.map_nil, List.mem_singleton] at hy
      subst hy
      exact fun e => look_out ln (e ▸ hx)
  · intro j p hj
    refine wpAny_bind (wpAny_dictEntries (s := { s with toks := s.toks + kn.tk k }) ho hd ?_)
    rw [eAt he j, hj]
    exact wpAny_bind (wpAny_rule (wpAny_pure (h1 p.2 (look_at nd hj))))
end
section
variable {prog : Program} {w : World} {κ : Type} [DecidableEq κ] (kn : Kn prog w κ) (d : Addr) (v : Value)
theorem meets_get (hd : (d == sysModules) = false) (dflt : Value) :
    MeetsIn prog w (Builtin.«dict.get» ⟨[.ref d, v, dflt], []⟩) (fun A R s => kn.rm A.in1 ∧ ∃ k rs, kn.at_ s.heap k v ∧ Has kn s.heap d rs ∧
      R (.ok (.ret ((look rs k).getD dflt))) { s with toks := s.toks + kn.tk k }) :=
  .of_wp fun A R s ⟨hu, k, rs, hk, hm, h⟩ => by
    show wpAny _ _ (dictGet d v >>= _) _ _ s
    refine wpAny_bind (get_ hu hk hm (h := ?_))
    cases hf : look rs k with
    | some u =>
      rw [hf] at h
      exact wpAny_pure ⟨u, rfl, h⟩
    | none =>
      rw [hf] at h
      show wpAny _ _ (Builtin.Dict.missed d v >>= _) _ _ _
      exact wpAny_bind (wpAny_missed_other hd (wpAny_pure ⟨dflt, rfl, h⟩))
theorem meets_setdef (hd : (d == sysModules) = false) (dflt : Value) :
    MeetsIn prog w (Builtin.«dict.setdefault» ⟨[.ref d, v, dflt], []⟩) (fun A R s => kn.rm A.in1 ∧ ∃ k rs, kn.at_ s.heap k v ∧ Has kn s.heap d rs ∧ rs.length ≤ sizeLine ∧
      (∀ u, look rs k = some u → R (.ok (.ret u)) { s with toks := s.toks + kn.tk k }) ∧
      (look rs k = none → ∀ h', Has kn h' d (rs ++ [(k, v, dflt)]) → Heap.SameBut d s.heap h' → R (.ok (.ret dflt)) { s with heap := h', toks := s.toks + kn.tk k })) :=
  .of_wp fun A R s ⟨hu, k, rs, hk, hm, hz, h1, h2⟩ => by
    unfold Builtin.«dict.setdefault»
    refine wpAny_bind ?_
    unfold Builtin.Dict.keyAndDefault
    refine wpAny_bind (wpAny_notOrdered_dict hm.typeIs ?_)
    show wpAny _ _ (pure (d, v, some dflt)) _ _ s
    refine wpAny_pure ?_
    show wpAny _ _ (if (d == sysModules) = true then _ else (dictSetDefault d v dflt >>= _)) _ _ s
    rw [if_neg (by rw [hd]; exact Bool.false_ne_true)]
    exact wpAny_bind (setdef_ hu hk hm hz (fun u hq => wpAny_pure ⟨u, rfl, h1 u hq⟩) fun hn h' hm' hs' => wpAny_pure ⟨dflt, rfl, h2 hn h' hm' hs'⟩)
end
end ND
namespace ND
open PySem PySem.Spec PyProof.Rows L2
/-! ### None and tuples of ints and texts -/
abbrev NKey := Option (List Key)
section
variable (P : Program) (w : World)
def nkAt (h : Heap) : NKey → Value → Prop
  | none, v => v = .none
  | some ks, v => ∃ a, v = .ref a ∧ (tupleKind (mixKind P w)).is h ks a
theorem tup_at {h : Heap} {ks : List Key} {a : Addr} (x : (tupleKind (mixKind P w)).is h ks a) : ∃ items, h.IsTuple a items := by
  obtain ⟨o, items, n, h1, h2, h3, _⟩ := (show IsTupleKey (mixKind P w) h ks a from x)
  exact ⟨items, o, h1, h2, n, h3⟩
def nk : Kn P w NKey where
  at_ := nkAt P w
  hs := fun k => match k with
    | none => reduceHash 0xFCA86420
    | some ks => (tupleKind (mixKind P w)).hash ks
  tk := fun k => match k with
    | none => 1
    | some ks => (tupleKind (mixKind P w)).draws ks
  rm := fun A => A.units < cLine
  one := @fun h v x y hx hy => by
    cases x with
    | none =>
      cases y with
      | none => rfl
      | some k =>
        obtain ⟨a, e, _⟩ := hy
        have e' : v = .none := hx
        rw [e'] at e
        cases e
    | some j =>
      obtain ⟨a, e, q⟩ := hx
      cases y with
      | none =>
        have e' : v = .none := hy
        rw [e'] at e
        cases e
      | some k =>
        obtain ⟨b, e', r⟩ := hy
        rw [e] at e'
        cases e'
        exact congrArg some ((tupleKind (mixKind P w)).inj q r)
  fm := @fun h v x hx => by
    cases x with
    | none => exact .inl hx
    | some k => obtain ⟨a, e, _⟩ := hx; exact .inr ⟨a, e⟩
  stay := @fun h h' k v d o es ep hk ho hd hs => by
    cases k with
    | none => exact hk
    | some k => obtain ⟨a, e, q⟩ := hk; exact ⟨a, e, (tupleKind (mixKind P w)).keeps q ho hd hs⟩
  hash := @fun A E s k v Q hr hk h => by
    cases k with
    | none =>
      have e : v = .none := hk
      subst e
      exact PySem.W.pyHash_slot (T := "NoneType") rfl PySem.F.slot_NoneType_hash PySem.F.entry_NoneType_hash (PySem.F.args_NoneType_hash_1 _) (beq_builtin_none _) (.inl rfl) (wpAny_bind (wpAny_pure (wpAny_bind (wpAny_mkInt (wpAny_pure ⟨_, _, rfl, h⟩)))))
    | some k =>
      obtain ⟨a, e, q⟩ := hk
      subst e
      exact (tupleKind (mixKind P w)).pyHash hr q h
  same := @fun A E s x y u v Q hr hx hy h => by
    cases x with
    | none =>
      have e : u = .none := hx
      subst e
      cases y with
      | none =>
        have e : v = .none := hy
        subst e
        rw [decide_eq_true rfl] at h
        exact SeqAt.EqAt.same _ _ _ _ _ h
      | some k =>
        obtain ⟨b, e, q⟩ := hy
        subst e
        rw [decide_eq_false (fun z => nomatch z)] at h
        obtain ⟨items, t⟩ := tup_at P w q
        exact SeqAt.EqAt.none_tuple t hr _ _ _ _ h
    | some j =>
      obtain ⟨a, e, q⟩ := hx
      subst e
      cases y with
      | none =>
        have e : v = .none := hy
        subst e
        rw [decide_eq_false (fun z => nomatch z)] at h
        obtain ⟨items, t⟩ := tup_at P w q
        exact SeqAt.EqAt.tuple_none t hr _ _ _ _ h
      | some k =>
        obtain ⟨b, e, r⟩ := hy
        subst e
        refine (tupleKind (mixKind P w)).eqBool hr q r ?_
        by_cases c : j = k
        · rw [decide_eq_true c]
          rw [decide_eq_true (congrArg some c)] at h
          exact h
        · rw [decide_eq_false c]
          rw [decide_eq_false (fun z => c (Option.some.inj z))] at h
          exact h
  calm := @fun A E s k v Q hk h => by
    cases k with
    | none =>
      have e : v = .none := hk
      subst e
      exact wpAny_pure h
    | some k =>
      obtain ⟨a, e, q⟩ := hk
      subst e
      exact (tupleKind (mixKind P w)).quiet q h
end
end ND
namespace ND
open PySem PySem.Spec PyProof.Rows
open Sem (wp)
section
variable {κ : Type} [DecidableEq κ]
def putR (k : κ) (v : Value) (r : Row κ) : Row κ := if r.1 = k then (r.1, r.2.1, v) else r
theorem putR_key (k : κ) (v : Value) (r : Row κ) : (putR k v r).1 = r.1 ∧ (putR k v r).2.1 = r.2.1 := by
  unfold putR
  split <;> exact ⟨rfl, rfl⟩
theorem putR_keys (k : κ) (v : Value) (rs : List (Row κ)) : (rs.map (putR k v)).map (·.1) = rs.map (·.1) := by
  rw [List.map_map]
  exact List.map_congr_left fun r _ => (putR_key k v r).1
theorem putR_no {k : κ} {v : Value} {rs : List (Row κ)} (h : k ∉ rs.map (·.1)) : rs.map (putR k v) = rs := by
  induction rs with
  | nil => rfl
  | cons r rs ih =>
    rw [List.map_cons, List.mem_cons, not_or] at h
    rw [List.map_cons, ih h.2]
    unfold putR
    rw [if_neg fun e => h.1 e.symm]
theorem modify_put {P : Program} {w : World} (kn : Kn P w κ) (k : κ) (v : Value) : ∀ {rs : List (Row κ)} {j : Nat} {p : Value × Value}, (rs.map (·.1)).Nodup → rs[j]? = some (k, p) →
    (rs.map (ent kn)).modify j (fun e => { e with val := v }) = (rs.map (putR k v)).map (ent kn)
  | [], j, p, _, h => by simp at h
  | r :: rs, 0, p, nd, h => by
    simp at h
    subst h
    rw [List.map_cons, List.nodup_cons] at nd
    rw [List.map_cons, List.map_cons, putR_no nd.1]
    simp [putR, ent]
  | r :: rs, j + 1, p, nd, h => by
    rw [List.map_cons, List.nodup_cons] at nd
    have h' : rs[j]? = some (k, p) := by simpa using h
    have hm : k ∈ rs.map (·.1) := List.mem_map.mpr ⟨_, List.mem_of_getElem? h', rfl⟩
    have ne : ¬ r.1 = k := fun e => nd.1 (e ▸ hm)
    rw [List.map_cons, List.map_cons, List.map_cons, List.modify_succ_cons, modify_put kn k v nd.2 h']
    unfold putR
    rw [if_neg ne]
/-- the rows behind d[k] = v -/
def putRs (rs : List (Row κ)) (k : κ) (u v : Value) : List (Row κ) := if (look rs k).isSome then rs.map (putR k v) else rs ++ [(k, u, v)]
end
section
variable {P : Program} {w : World} {κ : Type} [DecidableEq κ] {kn : Kn P w κ} {A : Around} {E : Value → Shared → Prop} {s : Shared}
theorem set_ {d : Addr} {u v : Value} {k : κ} {rs : List (Row κ)} {Q : Unit → Shared → Prop} (hr : kn.rm A) (hk : kn.at_ s.heap k u) (hh : Has kn s.heap d rs) (hsz : rs.length ≤ sizeLine)
    (hQ : ∀ h', Has kn h' d (putRs rs k u v) → Heap.SameBut d s.heap h' → Q () { s with heap := h', toks := s.toks + kn.tk k }) : wpAny (model P w) A (dictSet d u v) Q E s := by
  obtain ⟨⟨o, es, ep, ho, hc, hd, he⟩, hky, nd⟩ := hh
  unfold dictSet
  try with_reducible refine wpAny_holding ?_
  refine wpAny_bind (kn.hash hr hk ?_)
  unfold dictSetHashed
  try with_reducible refine wpAny_holding ?_
  refine wpAny_bind (found (s := { s with toks := s.toks + kn.tk k }) hr hk ho hd he hky nd ?_ ?_)
  · intro no
    have ln := look_no no
    have ep' : putRs rs k u v = rs ++ [(k, u, v)] := by unfold putRs; rw [ln]; rfl
    rw [ep'] at hQ
    refine wpAny_bind (wpAny_rule (wpAny_updateDictKeys (hz := by have e := eSize he; omega) (s := { s with toks := s.toks + kn.tk k }) ho hd (hQ _ ⟨⟨_, _, ep + 1, Heap.get?_update_self _ ho (Obj.isFreed_of_dict (Obj.data_mapDictKeys hd _)),
      hc.mapDictKeys _, Obj.data_mapDictKeys hd _, ?_⟩, ?_, ?_⟩ (Heap.SameBut.update ..))))
    · simp [he, ent]
    · intro x hx
      rcases List.mem_append.mp hx with hx | hx
      · exact kn.stay (hky x hx) ho hd (Heap.SameBut.update ..)
      · simp only [List.mem_singleton] at hx
        subst hx
        exact kn.stay hk ho hd (Heap.SameBut.update ..)
    · rw [List.map_append, List.nodup_append]
      refine ⟨nd, by simp, ?_⟩
      intro x hx y hy
      simp only [List.map_cons, List.map_nil, List.mem_singleton] at hy
      subst hy
      exact fun e => look_out ln (e ▸ hx)
  · intro j p hj
    have ep' : putRs rs k u v = rs.map (putR k v) := by unfold putRs; rw [look_at nd hj]; rfl
    rw [ep'] at hQ
    refine wpAny_bind (wpAny_rule (wpAny_bind (wpAny_updateDict (s := { s with toks := s.toks + kn.tk k }) ho hd (wpAny_point (hQ _ ⟨⟨_, _, ep, Heap.get?_update_self _ ho (Obj.isFreed_of_dict (Obj.data_mapDict hd _)),
      hc.mapDict _, Obj.data_mapDict hd _, ?_⟩, ?_, ?_⟩ (Heap.SameBut.update ..))))))
    · have := modify_put kn k v nd hj
      rw [← he] at this
      obtain ⟨l⟩ := es
      simpa using this
    · intro x hx
      obtain ⟨y, hy, rfl⟩ := List.mem_map.mp hx
      have q := putR_key k v y
      rw [q.1, q.2]
      exact kn.stay (hky y hy) ho hd (Heap.SameBut.update ..)
    · rw [putR_keys]
      exact nd
theorem in_ {d : Addr} {v : Value} {k : κ} {rs : List (Row κ)} {Q : Value → Shared → Prop} (hr : kn.rm A.in1) (hk : kn.at_ s.heap k v) (hd : (d == sysModules) = false) (hm : Has kn s.heap d rs)
    (h : Q (.bool (look rs k).isSome) { s with toks := s.toks + kn.tk k }) : wpAny (model P w) A (compareOp .In v (.ref d)) Q E s := by
  show wpAny _ _ (do return .bool (← contains (.ref d) v)) Q E s
  refine wpAny_bind ?_
  unfold contains
  try with_reducible refine wpAny_holding ?_
  refine wpAny_bind (wpAny_specialOf hm.typeIs slot_dict_contains.lookup ?_)
  show wpAny _ _ (if (some (Value.builtin "dict.__contains__") == some Value.none) = true then _ else _) _ E s
  rw [if_neg (by rw [beq_builtin_none]; exact Bool.false_ne_true)]
  refine wpAny_bind (wpAny_callSpecialUnlessNone?_slot (name := Str.ofString "__contains__") hm.typeIs slot_dict_contains
    (wpAny_call_entry slot_dict_contains hm.typeIs entry_dict_contains ?_ (args_dict_contains _ _)))
  show wpAny _ _ (dictGet d v >>= _) _ _ s
  refine wpAny_bind (get_ hr hk hm (h := ?_))
  cases hf : look rs k with
  | some p =>
    rw [hf] at h
    show wpAny _ _ (ret (.bool true)) _ _ _
    exact wpAny_pure ⟨_, rfl, wpAny_truthy_bool (wpAny_pure h)⟩
  | none =>
    rw [hf] at h
    show wpAny _ _ (Builtin.Dict.pendingKey? d v >>= _) _ _ _
    exact wpAny_bind (wpAny_pendingKey_other hd (wpAny_pure ⟨_, rfl, wpAny_truthy_bool (wpAny_pure h)⟩))
theorem notIn_ {d : Addr} {v : Value} {k : κ} {rs : List (Row κ)} {Q : Value → Shared → Prop} (hr : kn.rm A.in1) (hk : kn.at_ s.heap k v) (hd : (d == sysModules) = false) (hm : Has kn s.heap d rs)
    (h : Q (.bool (!(look rs k).isSome)) { s with toks := s.toks + kn.tk k }) : wpAny (model P w) A (compareOp .NotIn v (.ref d)) Q E s := by
  show wpAny _ _ (do return .bool (!(← contains (.ref d) v))) Q E s
  refine wpAny_bind ?_
  unfold contains
  try with_reducible refine wpAny_holding ?_
  refine wpAny_bind (wpAny_specialOf hm.typeIs slot_dict_contains.lookup ?_)
  show wpAny _ _ (if (some (Value.builtin "dict.__contains__") == some Value.none) = true then _ else _) _ E s
  rw [if_neg (by rw [beq_builtin_none]; exact Bool.false_ne_true)]
  refine wpAny_bind (wpAny_callSpecialUnlessNone?_slot (name := Str.ofString "__contains__") hm.typeIs slot_dict_contains
    (wpAny_call_entry slot_dict_contains hm.typeIs entry_dict_contains ?_ (args_dict_contains _ _)))
  show wpAny _ _ (dictGet d v >>= _) _ _ s
  refine wpAny_bind (get_ hr hk hm (h := ?_))
  cases hf : look rs k with
  | some p =>
    rw [hf] at h
    show wpAny _ _ (ret (.bool true)) _ _ _
    exact wpAny_pure ⟨_, rfl, wpAny_truthy_bool (wpAny_pure h)⟩
  | none =>
    rw [hf] at h
    show wpAny _ _ (Builtin.Dict.pendingKey? d v >>= _) _ _ _
    exact wpAny_bind (wpAny_pendingKey_other hd (wpAny_pure ⟨_, rfl, wpAny_truthy_bool (wpAny_pure h)⟩))
theorem item_ {d : Addr} {v u : Value} {k : κ} {rs : List (Row κ)} {Q : Value → Shared → Prop} (hr : kn.rm A.in1) (hk : kn.at_ s.heap k v) (hm : Has kn s.heap d rs) (hp : look rs k = some u)
    (h : Q u { s with toks := s.toks + kn.tk k }) : wpAny (model P w) A (getItem (.ref d) v) Q E s := by
  unfold getItem
  try with_reducible refine wpAny_holding ?_
  refine wpAny_bind (wpAny_sequenceKey hm.typeIs (by decide) ?_)
  refine wpAny_bind (wpAny_callSpecial?_slot (name := Str.ofString "__getitem__") hm.typeIs slot_dict_getitem
    (wpAny_call_entry slot_dict_getitem hm.typeIs entry_dict_getitem ?_ (args_dict_getitem _ _)))
  show wpAny _ _ (dictGet d v >>= _) _ _ s
  refine wpAny_bind (get_ hr hk hm (h := ?_))
  rw [hp]
  exact wpAny_pure ⟨u, rfl, wpAny_pure h⟩
end
end ND

set_option Elab.async false
set_option linter.all false
set_option maxRecDepth 100000
set_option maxHeartbeats 2000000
/-! dicts with None and tuples as keys, of any values: {}, d.get(k, x), d.setdefault(k, x), d[k] = v, in, d[k] -/
namespace ND
open PySem PySem.Spec PyProof.Rows L2
abbrev KRow := Option (List Key × Addr)
abbrev NRow := KRow × V
def rowK (q : KRow) : NKey := q.map (·.1)
def rowV : KRow → V
  | none => .non
  | some (_, b) => .ref b
def rowU : KRow → Value
  | none => .none
  | some (_, b) => .ref b
theorem rowV_u {q : KRow} {u : Value} (h : RelV (rowV q) u) : u = rowU q := by
  cases q with
  | none => exact h
  | some q => exact h
/-- a row as it stands -/
def RawR (r : NRow) (x : Row NKey) : Prop := x.1 = rowK r.1 ∧ x.2.1 = rowU r.1 ∧ RelV r.2 x.2.2
def lookN (rs : List NRow) (k : NKey) : Option V := (rs.find? fun r => decide (rowK r.1 = k)).map (·.2)
theorem look_N {rs : List NRow} {xs : List (Row NKey)} (k : NKey) (h : Paired RawR rs xs) : (lookN rs k = none ∧ look xs k = none) ∨ ∃ v u, lookN rs k = some v ∧ look xs k = some u ∧ RelV v u := by
  induction h with
  | nil => exact .inl ⟨rfl, rfl⟩
  | @cons r x rs xs h t ih =>
    unfold lookN look at ih ⊢
    obtain ⟨h1, h2, h3⟩ := h
    by_cases c : rowK r.1 = k
    · have c2 : x.1 = k := h1.trans c
      refine .inr ⟨r.2, x.2.2, ?_, ?_, h3⟩
      · simp [List.find?_cons, c]
      · simp [List.find?_cons, c2]
    · have c2 : ¬ x.1 = k := fun e => c (h1.symm.trans e)
      rw [List.find?_cons_of_neg (by simpa using c), List.find?_cons_of_neg (by simpa using c2)]
      exact ih
theorem raw_keys {rs : List NRow} {xs : List (Row NKey)} (h : Paired RawR rs xs) : xs.map (·.1) = rs.map fun r => rowK r.1 := by
  induction h with
  | nil => rfl
  | cons h t ih => rw [List.map_cons, List.map_cons, ih, h.1]
theorem raw_app {rs : List NRow} {xs : List (Row NKey)} {r : NRow} {x : Row NKey} (h : Paired RawR rs xs) (g : RawR r x) : Paired RawR (rs ++ [r]) (xs ++ [x]) := by
  induction h with
  | nil => exact .cons g .nil
  | cons h t ih => exact .cons h ih
def putN1 (k : NKey) (v : V) (r : NRow) : NRow := if rowK r.1 = k then (r.1, v) else r
def putN (rs : List NRow) (q : KRow) (v : V) : List NRow := if (lookN rs (rowK q)).isSome then rs.map (putN1 (rowK q) v) else rs ++ [(q, v)]
theorem raw_put {rs : List NRow} {xs : List (Row NKey)} {q : KRow} {v : V} {u : Value} (h : Paired RawR rs xs) (g : RelV v u) : Paired RawR (putN rs q v) (putRs xs (rowK q) (rowU q) u) := by
  unfold putN putRs
  rcases look_N (rowK q) h with ⟨a, b⟩ | ⟨v', u', a, b, _⟩
  · rw [a, b]
    exact raw_app h ⟨rfl, rfl, g⟩
  · rw [a, b]
    show Paired RawR (rs.map _) (xs.map _)
    induction h with
    | nil => exact .nil
    | @cons r x rs xs h t ih =>
      have hr : RawR (putN1 (rowK q) v r) (putR (rowK q) u x) := by
        obtain ⟨h1, h2, h3⟩ := h
        unfold putN1 putR
        by_cases c : rowK r.1 = rowK q
        · rw [if_pos c, if_pos (h1.trans c)]
          exact ⟨h1, h2, g⟩
        · rw [if_neg c, if_neg fun e => c (h1.symm.trans e)]
          exact ⟨h1, h2, h3⟩
      refine .cons hr ?_
      clear ih a b hr h
      induction t with
      | nil => exact .nil
      | @cons r x rs xs h t ih =>
        refine .cons ?_ ih
        obtain ⟨h1, h2, h3⟩ := h
        unfold putN1 putR
        by_cases c : rowK r.1 = rowK q
        · rw [if_pos c, if_pos (h1.trans c)]
          exact ⟨h1, h2, g⟩
        · rw [if_neg c, if_neg fun e => c (h1.symm.trans e)]
          exact ⟨h1, h2, h3⟩
theorem putN_len (rs : List NRow) (q : KRow) (v : V) : (putN rs q v).length ≤ rs.length + 1 := by
  unfold putN
  split
  · rw [List.length_map]; omega
  · rw [List.length_append]; exact Nat.le_refl _
def NdAt (P : Program) (w : World) (h : Heap) (a : Addr) (rs : List NRow) : Prop := ∃ o es ep xs, h.get? a = some o ∧ o.ExactDict ∧ o.data = .dict es ep ∧ Paired RawR rs xs ∧ es.toList = xs.map (ent (nk P w)) ∧ (xs.map (·.1)).Nodup
def NDo (P : Program) (w : World) (a : Addr) (rs : List NRow) : HO := .ext fun h => ((a == sysModules) = false ∧ rs.length ≤ sizeLine) ∧ NdAt P w h a rs
theorem nd_new {P : Program} {w : World} {H : Hp} {h : Heap} {a : Addr} {rs : List NRow} (h1 : (a == sysModules) = false) (h2 : rs.length ≤ sizeLine) (h4 : NdAt P w h a rs) : ObjOk P w H h a (NDo P w a rs) := by
  refine ⟨⟨⟨h1, h2⟩, h4⟩, ?_, fun g1 g2 ⟨p, o, es, ep, xs, e, r⟩ k => ⟨p, o, es, ep, xs, k o e, r⟩⟩
  obtain ⟨o, _, _, _, e, _⟩ := h4
  exact ⟨o, e⟩
/-- the tuple of a key stands -/
def RowOk (K : PySem.W.Frag) (H : Hp) (q : KRow) : Prop := ∀ ks b, q = some (ks, b) → SqT K H b (ks.map kV)
def RowsOk (K : PySem.W.Frag) (H : Hp) (rs : List NRow) : Prop := ∀ r ∈ rs, RowOk K H r.1
section
variable {X : Cx} {pins : List (Addr × Obj)} {σ : L2.St} {H : Hp} {s : Shared} {a b : Addr} {A : Around} {E : Value → Shared → Prop} {rs : List NRow} {q : KRow}
theorem tup_is {ks : List Key} (I : Inv X pins σ H s) (h : SqT X.K H b (ks.map kV)) : (tupleKind (mixKind X.prog X.w)).is s.heap ks b := by
  obtain ⟨its, r, ⟨o, h1, h2, n, h3⟩, _⟩ := I.tuple h
  exact ⟨o, its.toArray, n, h1, h2, h3, by simpa using items_are r⟩
theorem row_at (I : Inv X pins σ H s) (h : RowOk X.K H q) : (nk X.prog X.w).at_ s.heap (rowK q) (rowU q) := by
  cases q with
  | none => exact rfl
  | some q => exact ⟨q.2, rfl, tup_is I (h q.1 q.2 rfl)⟩
theorem rows_at (I : Inv X pins σ H s) {xs : List (Row NKey)} (e : Paired RawR rs xs) : RowsOk X.K H rs → ∀ y ∈ xs, (nk X.prog X.w).at_ s.heap y.1 y.2.1 := by
  induction e with
  | nil => exact fun _ r hr => nomatch hr
  | @cons r x rs xs g t ih =>
    intro h y hy
    rcases List.mem_cons.mp hy with rfl | hy
    · rw [g.1, g.2.1]
      exact row_at I (h r List.mem_cons_self)
    · exact ih (fun r hr => h r (List.mem_cons_of_mem _ hr)) y hy
theorem nd_has (I : Inv X pins σ H s) (e : H a = some (NDo X.prog X.w a rs)) (h : RowsOk X.K H rs) : (a == sysModules) = false ∧ rs.length ≤ sizeLine ∧ ∃ xs, Paired RawR rs xs ∧ Has (nk X.prog X.w) s.heap a xs := by
  obtain ⟨⟨⟨h1, h2⟩, o, es, ep, xs, e1, e2, e3, e4, e5, e6⟩, _⟩ := I.hok a _ e
  refine ⟨h1, h2, xs, e4, ⟨o, es, ep, e1, e2, e3, e5⟩, ?_, e6⟩
  exact rows_at I e4 h
/-- the dict is written -/
theorem nd_write {rs' : List NRow} {xs' : List (Row NKey)} {h' : Heap} {t' : Nat} (I : Inv X pins σ H s) (e : H a = some (NDo X.prog X.w a rs)) (hd : (a == sysModules) = false) (hl : rs'.length ≤ sizeLine) (hr : Paired RawR rs' xs') (hh : Has (nk X.prog X.w) h' a xs') (sb : Heap.SameBut a s.heap h') :
    Inv X pins σ (upd H a (NDo X.prog X.w a rs')) { s with heap := h', toks := t' } := by
  obtain ⟨⟨o, es, ep, e1, e2, e3, e4⟩, -, nd⟩ := hh
  exact d_write I (by rw [e]; exact True.intro) sb ⟨o, e1⟩ (nd_new hd hl ⟨o, es, ep, xs', e1, e2, e3, hr, e4, nd⟩)
theorem nd_get {u r : Value} {Q : Value → Shared → Prop} (hu : A.units + 1 < cLine) (I : Inv X pins σ H s) (e : H a = some (NDo X.prog X.w a rs)) (h : RowsOk X.K H rs) (hq : RowOk X.K H q) (ru : RelV (rowV q) u)
    (h1 : ∀ v w', lookN rs (rowK q) = some v → RelV v w' → ∀ s', Inv X pins σ H s' → Q w' s') (h2 : lookN rs (rowK q) = none → ∀ s', Inv X pins σ H s' → Q r s') : wpAny (model X.prog X.w) A (call (.builtin "dict.get") [.ref a, u, r]) Q E s := by
  obtain ⟨g1, g2, xs, hx, hs⟩ := nd_has I e h
  cases rowV_u ru
  refine call_meetsIn PySem.F.slot_dict_get hs.typeIs PySem.F.entry_dict_get (PySem.F.args_dict_get_3 _ _ _) (meets_get (nk X.prog X.w) a (rowU q) g1 r) ⟨hu, _, _, row_at I hq, hs, ?_⟩
  rcases look_N (rowK q) hx with ⟨l1, l2⟩ | ⟨v, w', l1, l2, l3⟩
  · rw [l2]
    exact h2 l1 _ (I.tok _)
  · rw [l2]
    exact h1 v w' l1 l3 _ (I.tok _)
theorem nd_setdef {u r : Value} {z : V} {Q : Value → Shared → Prop} (hu : A.units + 1 < cLine) (I : Inv X pins σ H s) (e : H a = some (NDo X.prog X.w a rs)) (h : RowsOk X.K H rs) (hq : RowOk X.K H q) (ru : RelV (rowV q) u) (rz : RelV z r) (hz : rs.length < sizeLine)
    (h1 : ∀ v w', lookN rs (rowK q) = some v → RelV v w' → ∀ s', Inv X pins σ H s' → Q w' s') (h2 : lookN rs (rowK q) = none → ∀ s', Inv X pins σ (upd H a (NDo X.prog X.w a (rs ++ [(q, z)]))) s' → Q r s') :
    wpAny (model X.prog X.w) A (call (.builtin "dict.setdefault") [.ref a, u, r]) Q E s := by
  obtain ⟨g1, g2, xs, hx, hs⟩ := nd_has I e h
  have hl := Paired.length hx
  cases rowV_u ru
  refine call_meetsIn PySem.F.slot_dict_setdefault hs.typeIs PySem.F.entry_dict_setdefault (PySem.F.args_dict_setdefault_3 _ _ _) (meets_setdef (nk X.prog X.w) a (rowU q) g1 r) ⟨hu, _, _, row_at I hq, hs, by rw [← hl]; exact g2, fun v hv => ?_, fun hn h' hh' sb => ?_⟩
  · rcases look_N (rowK q) hx with ⟨l1, l2⟩ | ⟨v', w', l1, l2, l3⟩
    · rw [hv] at l2; cases l2
    · rw [hv] at l2
      cases l2
      exact h1 v' v l1 l3 _ (I.tok _)
  · rcases look_N (rowK q) hx with ⟨l1, l2⟩ | ⟨v', w', l1, l2, l3⟩
    · exact h2 l1 _ (nd_write (t' := s.toks + (nk X.prog X.w).tk (rowK q)) I e g1 (by rw [List.length_append, List.length_singleton]; exact hz) (raw_app hx ⟨rfl, rfl, rz⟩) hh' sb)
    · rw [hn] at l2; cases l2
theorem nd_set {u r : Value} {z : V} {Q : Unit → Shared → Prop} (hu : A.units < cLine) (I : Inv X pins σ H s) (e : H a = some (NDo X.prog X.w a rs)) (h : RowsOk X.K H rs) (hq : RowOk X.K H q) (ru : RelV (rowV q) u) (rz : RelV z r) (hz : rs.length < sizeLine)
    (hQ : ∀ s', Inv X pins σ (upd H a (NDo X.prog X.w a (putN rs q z))) s' → Q () s') : wpAny (model X.prog X.w) A (dictSet a u r) Q E s := by
  obtain ⟨g1, g2, xs, hx, hs⟩ := nd_has I e h
  have hl := Paired.length hx
  have hp := putN_len rs q z
  cases rowV_u ru
  exact set_ hu (row_at I hq) hs (by rw [← hl]; exact g2) fun h' hh' sb => hQ _ (nd_write (t' := s.toks + (nk X.prog X.w).tk (rowK q)) I e g1 (by omega) (raw_put hx rz) hh' sb)
theorem nd_in {u : Value} {Q : Value → Shared → Prop} (hu : A.units + 1 < cLine) (I : Inv X pins σ H s) (e : H a = some (NDo X.prog X.w a rs)) (h : RowsOk X.K H rs) (hq : RowOk X.K H q) (ru : RelV (rowV q) u)
    (hQ : ∀ s', Inv X pins σ H s' → Q (.bool (lookN rs (rowK q)).isSome) s') : wpAny (model X.prog X.w) A (compareOp .In u (.ref a)) Q E s := by
  obtain ⟨g1, g2, xs, hx, hs⟩ := nd_has I e h
  cases rowV_u ru
  refine in_ hu (row_at I hq) g1 hs ?_
  rcases look_N (rowK q) hx with ⟨l1, l2⟩ | ⟨v, w', l1, l2, l3⟩ <;> (rw [l1] at hQ; rw [l2]; exact hQ _ (I.tok _))
theorem nd_notIn {u : Value} {Q : Value → Shared → Prop} (hu : A.units + 1 < cLine) (I : Inv X pins σ H s) (e : H a = some (NDo X.prog X.w a rs)) (h : RowsOk X.K H rs) (hq : RowOk X.K H q) (ru : RelV (rowV q) u)
    (hQ : ∀ s', Inv X pins σ H s' → Q (.bool (!(lookN rs (rowK q)).isSome)) s') : wpAny (model X.prog X.w) A (compareOp .NotIn u (.ref a)) Q E s := by
  obtain ⟨g1, g2, xs, hx, hs⟩ := nd_has I e h
  cases rowV_u ru
  refine notIn_ hu (row_at I hq) g1 hs ?_
  rcases look_N (rowK q) hx with ⟨l1, l2⟩ | ⟨v, w', l1, l2, l3⟩ <;> (rw [l1] at hQ; rw [l2]; exact hQ _ (I.tok _))
theorem nd_item {u : Value} {v : V} {Q : Value → Shared → Prop} (hu : A.units + 1 < cLine) (I : Inv X pins σ H s) (e : H a = some (NDo X.prog X.w a rs)) (h : RowsOk X.K H rs) (hq : RowOk X.K H q) (ru : RelV (rowV q) u) (hv : lookN rs (rowK q) = some v)
    (hQ : ∀ w' s', Inv X pins σ H s' → RelV v w' → Q w' s') : wpAny (model X.prog X.w) A (getItem (.ref a) u) Q E s := by
  obtain ⟨g1, g2, xs, hx, hs⟩ := nd_has I e h
  cases rowV_u ru
  rcases look_N (rowK q) hx with ⟨l1, l2⟩ | ⟨v', w', l1, l2, l3⟩
  · rw [hv] at l1; cases l1
  · rw [hv] at l1
    cases l1
    exact item_ hu (row_at I hq) hs l2 (hQ w' _ (I.tok _) l3)
end
/-! ### rules -/
def tNNew (X : Cx) : TE := fun _ H Q => ∀ p, H p = none → Q (.ref p) (upd H p (NDo X.prog X.w p []))
/-- d.get(y, z) -/
def tNGet (X : Cx) (td ty tx : TE) : TE := fun σ H Q => td σ H fun x H1 => ∃ a rs, x = .ref a ∧ H1 a = some (NDo X.prog X.w a rs) ∧ ty σ H1 fun y H2 => tx σ H2 fun z H3 => ∃ (rs : List NRow) (q : KRow),
  H3 a = some (NDo X.prog X.w a rs) ∧ RowsOk X.K H3 rs ∧ y = rowV q ∧ RowOk X.K H3 q ∧ (∀ v, lookN rs (rowK q) = some v → Q v H3) ∧ (lookN rs (rowK q) = none → Q z H3)
/-- d.setdefault(y, z) -/
def tNSetd (X : Cx) (td ty tx : TE) : TE := fun σ H Q => td σ H fun x H1 => ∃ a rs, x = .ref a ∧ H1 a = some (NDo X.prog X.w a rs) ∧ ty σ H1 fun y H2 => tx σ H2 fun z H3 => ∃ (rs : List NRow) (q : KRow),
  H3 a = some (NDo X.prog X.w a rs) ∧ RowsOk X.K H3 rs ∧ y = rowV q ∧ RowOk X.K H3 q ∧ rs.length < sizeLine ∧
  (∀ v, lookN rs (rowK q) = some v → Q v H3) ∧ (lookN rs (rowK q) = none → Q z (upd H3 a (NDo X.prog X.w a (rs ++ [(q, z)]))))
section
variable {X : Cx} {o e f : Expr} {td ty tx : TE} {pos apos cpos : Pos}
theorem nd_empty (h : Heap) (hb : sysModules < h.objs.size) {P : Program} {w : World} {H : Hp} : ObjOk P w H (h.push { cls := .type "dict", data := .dict #[] }) h.objs.size (NDo P w h.objs.size []) :=
  nd_new (beq_eq_false_iff_ne.mpr (Ne.symm (Nat.ne_of_lt hb))) (Nat.zero_le _) ⟨_, #[], 0, [], Heap.get?_push_size _ rfl, ⟨rfl, rfl, rfl⟩, rfl, .nil, rfl, List.nodup_nil⟩
theorem pe_nnew : PE X (.Dict [] [] pos) (tNNew X) := ⟨fun pins s σ H Q I h =>
  wpAny_Dict_empty ⟨.ref s.heap.objs.size, _, I.laid (a := s.heap.objs.size) (o := NDo X.prog X.w s.heap.objs.size []) (t' := s.toks) (fun _ _ q => Heap.get?_push_of_some _ q) (Nat.le_refl _) (nd_empty s.heap I.big), rfl, h _ (I.hok.fresh (Nat.le_refl _))⟩⟩
theorem isN_at {pins : List (Addr × Obj)} {σ : L2.St} {H : Hp} {s : Shared} {a : Addr} {rs : List NRow} (I : Inv X pins σ H s) (e : H a = some (NDo X.prog X.w a rs)) : s.TypeIs (.ref a) "dict" ∧ ∀ b, Value.ref a = .ref b → ∃ ob, s.heap.get? b = some ob ∧ ob.dict = none := by
  obtain ⟨⟨_, o, es, ep, _, e1, e2, _⟩, _⟩ := I.hok a _ e
  refine ⟨⟨o, e1, e2.1⟩, fun b q => ?_⟩
  cases q
  exact ⟨o, e1, e2.2.1⟩
theorem pe_nget (hu : X.A.units + 1 < cLine) (ho : PE X o td) (he : PE X e ty) (hf : PE X f tx) (m : M2 X o "get" apos e f cpos) : PE X (.Call (.Attribute o "get" apos) [e, f] [] cpos) (tNGet X td ty tx) := by
  refine ⟨fun pins s σ H Q I h => ?_⟩
  refine wpAny_Call_method m.base m.few m.line PySem.F.plainAttrs_dict PySem.F.slot_dict_get PySem.F.type_dict_get (thn (ho.run pins s σ H _ I h) fun u s1 ⟨x, H1, I1, rx, a, rs0, ex, d, q1⟩ => ?_)
  subst ex
  obtain rfl : u = Value.ref a := rx
  obtain ⟨t1, t2⟩ := isN_at I1 d
  refine ⟨t1, t2, ?_⟩
  rw [m.trees]
  refine Calls.callWith_builtin rfl (Calls.evalArgs_plain (Calls.spliced_cons (thn (he.run pins s1 σ H1 _ I1 q1) fun iv s2 ⟨y, H2, I2, ry, q2⟩ =>
    Calls.spliced_cons (thn (hf.run pins s2 σ H2 _ I2 q2) fun fv s3 ⟨z, H3, I3, rz, rs, q, e1, e2, e3, e4, q3, q4⟩ => Calls.spliced_nil ?_))))
  subst e3
  exact nd_get hu I3 e1 e2 e4 ry (fun v w' hv rw' s4 I4 => ⟨v, H3, I4, rw', q3 v hv⟩) fun hn s4 I4 => ⟨z, H3, I4, rz, q4 hn⟩
theorem pe_nsetd (hu : X.A.units + 1 < cLine) (ho : PE X o td) (he : PE X e ty) (hf : PE X f tx) (m : M2 X o "setdefault" apos e f cpos) : PE X (.Call (.Attribute o "setdefault" apos) [e, f] [] cpos) (tNSetd X td ty tx) := by
  refine ⟨fun pins s σ H Q I h => ?_⟩
  refine wpAny_Call_method m.base m.few m.line PySem.F.plainAttrs_dict PySem.F.slot_dict_setdefault PySem.F.type_dict_setdefault (thn (ho.run pins s σ H _ I h) fun u s1 ⟨x, H1, I1, rx, a, rs0, ex, d, q1⟩ => ?_)
  subst ex
  obtain rfl : u = Value.ref a := rx
  obtain ⟨t1, t2⟩ := isN_at I1 d
  refine ⟨t1, t2, ?_⟩
  rw [m.trees]
  refine Calls.callWith_builtin rfl (Calls.evalArgs_plain (Calls.spliced_cons (thn (he.run pins s1 σ H1 _ I1 q1) fun iv s2 ⟨y, H2, I2, ry, q2⟩ =>
    Calls.spliced_cons (thn (hf.run pins s2 σ H2 _ I2 q2) fun fv s3 ⟨z, H3, I3, rz, rs, q, e1, e2, e3, e4, e6, q3, q4⟩ => Calls.spliced_nil ?_))))
  subst e3
  exact nd_setdef hu I3 e1 e2 e4 ry rz e6 (fun v w' hv rw' s4 I4 => ⟨v, H3, I4, rw', q3 v hv⟩) fun hn s4 I4 => ⟨z, _, I4, rz, q4 hn⟩
end
end ND
namespace DL
open PySem PySem.Spec PyProof.Rows L2 ND
/-- a value as it is told -/
theorem WOk_rel {K : PySem.W.Frag} {Hr : Hp} {v : V} {u : V} (h : WOk K Hr v (.r u)) : v = u := h
def NCell (K : PySem.W.Frag) (Hr : Hp) : List NRow → List (NKey × W) → Prop := Paired fun r kv => rowK r.1 = kv.1 ∧ WOk K Hr r.2 kv.2
/-- a dict, owned: None and tuples as keys, any values -/
def NXc (P : Program) (w : World) (kvs : List (NKey × W)) : XC where
  ok := fun K Hr H p => ∃ rs, H p = some (NDo P w p rs) ∧ RowsOk K Hr rs ∧ NCell K Hr rs kvs
  mono := fun e ⟨rs, h1, h2, h3⟩ => ⟨rs, h1, fun r hr ks b q => same_t e (h2 r hr ks b q), Paired.mapP h3 fun _ _ q => ⟨q.1, q.2.mono e⟩⟩
  some_ := fun ⟨rs, h1, _⟩ => ⟨_, h1⟩
  heap := fun ⟨rs, h1, h2⟩ e => ⟨rs, e.trans h1, h2⟩
def nkD : NKey → PyData
  | none => .none
  | some ks => .tuple (ks.map keyD)
def nget (kvs : List (NKey × W)) (k : NKey) : Option W := (kvs.find? fun r => decide (r.1 = k)).map (·.2)
def nput1 (k : NKey) (v : W) (r : NKey × W) : NKey × W := if r.1 = k then (r.1, v) else r
def nput (kvs : List (NKey × W)) (k : NKey) (v : W) : List (NKey × W) := if (nget kvs k).isSome then kvs.map (nput1 k v) else kvs ++ [(k, v)]
section
variable {K : PySem.W.Frag} {Hr : Hp} {rs : List NRow} {kvs : List (NKey × W)}
theorem nget_rows (k : NKey) (h : NCell K Hr rs kvs) : (lookN rs k = none ∧ nget kvs k = none) ∨ ∃ v w, lookN rs k = some v ∧ nget kvs k = some w ∧ WOk K Hr v w := by
  unfold NCell at h
  induction h with
  | nil => exact .inl ⟨rfl, rfl⟩
  | @cons r x rs xs h t ih =>
    unfold lookN nget at ih ⊢
    obtain ⟨h1, h2⟩ := h
    by_cases c : rowK r.1 = k
    · have c2 : x.1 = k := h1.symm.trans c
      refine .inr ⟨r.2, x.2, ?_, ?_, h2⟩
      · simp [List.find?_cons, c]
      · simp [List.find?_cons, c2]
    · have c2 : ¬ x.1 = k := fun e => c (h1.trans e)
      rw [List.find?_cons_of_neg (by simpa using c), List.find?_cons_of_neg (by simpa using c2)]
      exact ih
theorem NCell.snoc {r : NRow} {kv : NKey × W} (h : NCell K Hr rs kvs) (g : rowK r.1 = kv.1 ∧ WOk K Hr r.2 kv.2) : NCell K Hr (rs ++ [r]) (kvs ++ [kv]) := by
  unfold NCell at h ⊢
  induction h with
  | nil => exact .cons g .nil
  | cons h t ih => exact .cons h ih
theorem NCell.put {q : KRow} {v : V} {w : W} (h : NCell K Hr rs kvs) (g : WOk K Hr v w) : NCell K Hr (putN rs q v) (nput kvs (rowK q) w) := by
  unfold putN nput
  rcases nget_rows (rowK q) h with ⟨a, b⟩ | ⟨v', u', a, b, _⟩
  · rw [a, b]
    exact h.snoc ⟨rfl, g⟩
  · rw [a, b]
    show NCell K Hr (rs.map _) (kvs.map _)
    clear a b
    unfold NCell at h ⊢
    induction h with
    | nil => exact .nil
    | @cons r x rs xs h t ih =>
      refine .cons ?_ ih
      obtain ⟨h1, h2⟩ := h
      unfold putN1 nput1
      by_cases c : rowK r.1 = rowK q
      · rw [if_pos c, if_pos (h1.symm.trans c)]
        exact ⟨h1, g⟩
      · rw [if_neg c, if_neg fun e => c (h1.trans e)]
        exact ⟨h1, h2⟩
theorem NCell.len (h : NCell K Hr rs kvs) : rs.length = kvs.length := Paired.length h
theorem nput_len (kvs : List (NKey × W)) (k : NKey) (w : W) : (nput kvs k w).length ≤ kvs.length + 1 := by
  unfold nput
  split
  · rw [List.length_map]; omega
  · rw [List.length_append]; exact Nat.le_refl _
end
theorem dv_keys {K : PySem.W.Frag} {H : Hp} : ∀ {ks : List Key} {vs : List V}, DvAll K H vs (ks.map keyD) → vs = ks.map kV
  | [], _, h => by cases h; rfl
  | k :: ks, _, h => by
    cases h with
    | cons a b =>
      rw [keyD_v a, dv_keys (ks := ks) b]
      rfl
theorem nkD_v {K : PySem.W.Frag} {Hr : Hp} {v : V} {k : NKey} (h : Dv K Hr v (nkD k)) : ∃ q, v = rowV q ∧ rowK q = k ∧ RowOk K Hr q := by
  cases k with
  | none =>
    cases h
    exact ⟨none, rfl, rfl, fun ks b z => nomatch z⟩
  | some ks =>
    have h : Dv K Hr v (.tuple (ks.map keyD)) := h
    cases h with
    | tup a b =>
      refine ⟨some (ks, _), rfl, rfl, fun ks' b' z => ?_⟩
      cases z
      rw [← dv_keys b]
      exact a
theorem rowsOk_mono {K : PySem.W.Frag} {H H' : Hp} {rs : List NRow} (e : Same H H') (h : RowsOk K H rs) : RowsOk K H' rs := fun r hr ks b q => same_t e (h r hr ks b q)
theorem rowOk_mono {K : PySem.W.Frag} {H H' : Hp} {q : KRow} (e : Same H H') (h : RowOk K H q) : RowOk K H' q := fun ks b z => same_t e (h ks b z)
/-- a dict with None and tuple keys, owned -/
def NdOwn (P : Program) (w : World) (O : Own) (x : W) (kvs : List (NKey × W)) : Prop := ∃ (p : Addr) (j : Nat), x = .r (.ref p) ∧ O[j]? = some (p, Cell.x (NXc P w kvs))
section
variable {X : Cx} {τ : Tau} {O : Own} {P : W → Own → Prop} {o e f a b : Expr} {pos apos cpos : Pos} {w : W}
/-- {} -/
theorem de_nnew (h : ∀ p, P (.r (.ref p)) ((p, .x (NXc X.prog X.w [])) :: O)) : DE X τ O (.Dict [] [] pos) P := ⟨fun σ Hr H Q hE hS hQ pins s I =>
  pe_nnew.run pins s σ H Q I fun p hp => hQ _ _ ⟨_, _, Hr, h p, Same.refl _, hS.newOwn hp ⟨[], upd_same, (fun r hr => nomatch hr), .nil⟩, rfl⟩⟩
/-- d.get(k, x) -/
theorem de_nget (hu : X.A.units + 1 < cLine) (h : DE X τ O o fun w1 O1 => ∃ (p : Addr) (j : Nat) (kvs : List (NKey × W)), w1 = .r (.ref p) ∧ O1[j]? = some (p, .x (NXc X.prog X.w kvs)) ∧ DE X τ O1 e fun w2 O2 => DE X τ O2 f fun w3 O3 => ∃ (j2 : Nat) (kvs2 : List (NKey × W)) (k : NKey),
      O3[j2]? = some (p, .x (NXc X.prog X.w kvs2)) ∧ w2 = .d (nkD k) ∧ P ((nget kvs2 k).getD w3) O3)
    (m : M2 X o "get" apos e f cpos) : DE X τ O (.Call (.Attribute o "get" apos) [e, f] [] cpos) P := by
  refine ⟨?_⟩
  intro σ Hr H Q hE hS hQ pins s I
  refine (pe_nget hu pe_te pe_te pe_te m).run pins s σ H Q I ?_
  refine h σ Hr H _ hE hS fun x H1 ⟨w1, O1, Hr1, ⟨p, j, kvs, hw, hj, h1⟩, e1, s1, k1⟩ => ?_
  subst hw
  cases k1
  obtain ⟨rs1, v1, -⟩ := s1.cell hj
  refine ⟨p, rs1, rfl, v1, ?_⟩
  refine h1 σ Hr1 H1 _ (hE.mono e1) s1 fun y H2 ⟨w2, O2, Hr2, h2, e2, s2, k2⟩ => ?_
  refine h2 σ Hr2 H2 _ (hE.mono (e1.trans e2)) s2 fun z H3 ⟨w3, O3, Hr3, ⟨j2, kvs2, k, hj2, q2, hP⟩, e3, s3, k3⟩ => ?_
  subst q2
  obtain ⟨rs, u1, u2, u3⟩ := s3.cell hj2
  obtain ⟨q, g1, g2, g3⟩ := nkD_v (k2.mono e3)
  subst g2
  refine ⟨rs, q, u1, rowsOk_mono s3.ex u2, g1, rowOk_mono s3.ex g3, fun v hv => ?_, fun hn => ?_⟩
  · rcases nget_rows (rowK q) u3 with ⟨a1, a2⟩ | ⟨v', w', a1, a2, a3⟩
    · rw [hv] at a1; cases a1
    · rw [hv] at a1
      cases a1
      rw [a2] at hP
      exact hQ _ _ ⟨_, O3, Hr3, hP, (e1.trans e2).trans e3, s3, a3⟩
  · rcases nget_rows (rowK q) u3 with ⟨a1, a2⟩ | ⟨v', w', a1, a2, a3⟩
    · rw [a2] at hP
      exact hQ _ _ ⟨_, O3, Hr3, hP, (e1.trans e2).trans e3, s3, k3⟩
    · rw [hn] at a1; cases a1
/-- d.setdefault(k, x) -/
theorem de_nsetd (hu : X.A.units + 1 < cLine) (h : DE X τ O o fun w1 O1 => ∃ (p : Addr) (j : Nat) (kvs : List (NKey × W)), w1 = .r (.ref p) ∧ O1[j]? = some (p, .x (NXc X.prog X.w kvs)) ∧ DE X τ O1 e fun w2 O2 => DE X τ O2 f fun w3 O3 => ∃ (j2 : Nat) (kvs2 : List (NKey × W)) (k : NKey),
      O3[j2]? = some (p, .x (NXc X.prog X.w kvs2)) ∧ w2 = .d (nkD k) ∧ kvs2.length < sizeLine ∧ (∀ w, nget kvs2 k = some w → P w O3) ∧ (nget kvs2 k = none → P w3 (O3.set j2 (p, .x (NXc X.prog X.w (kvs2 ++ [(k, w3)]))))))
    (m : M2 X o "setdefault" apos e f cpos) : DE X τ O (.Call (.Attribute o "setdefault" apos) [e, f] [] cpos) P := by
  refine ⟨?_⟩
  intro σ Hr H Q hE hS hQ pins s I
  refine (pe_nsetd hu pe_te pe_te pe_te m).run pins s σ H Q I ?_
  refine h σ Hr H _ hE hS fun x H1 ⟨w1, O1, Hr1, ⟨p, j, kvs, hw, hj, h1⟩, e1, s1, k1⟩ => ?_
  subst hw
  cases k1
  obtain ⟨rs1, v1, -⟩ := s1.cell hj
  refine ⟨p, rs1, rfl, v1, ?_⟩
  refine h1 σ Hr1 H1 _ (hE.mono e1) s1 fun y H2 ⟨w2, O2, Hr2, h2, e2, s2, k2⟩ => ?_
  refine h2 σ Hr2 H2 _ (hE.mono (e1.trans e2)) s2 fun z H3 ⟨w3, O3, Hr3, ⟨j2, kvs2, k, hj2, q2, hz, hP1, hP2⟩, e3, s3, k3⟩ => ?_
  subst q2
  obtain ⟨rs, u1, u2, u3⟩ := s3.cell hj2
  obtain ⟨q, g1, g2, g3⟩ := nkD_v (k2.mono e3)
  subst g2
  refine ⟨rs, q, u1, rowsOk_mono s3.ex u2, g1, rowOk_mono s3.ex g3, by rw [u3.len]; exact hz, fun v hv => ?_, fun hn => ?_⟩
  · rcases nget_rows (rowK q) u3 with ⟨a1, a2⟩ | ⟨v', w', a1, a2, a3⟩
    · rw [hv] at a1; cases a1
    · rw [hv] at a1
      cases a1
      exact hQ _ _ ⟨_, O3, Hr3, hP1 _ a2, (e1.trans e2).trans e3, s3, a3⟩
  · rcases nget_rows (rowK q) u3 with ⟨a1, a2⟩ | ⟨v', w', a1, a2, a3⟩
    · refine hQ _ _ ⟨_, _, Hr3, hP2 a2, (e1.trans e2).trans e3, s3.put hj2 (c' := .x (NXc X.prog X.w _)) ⟨rs ++ [(q, z)], upd_same, fun r hr => ?_, u3.snoc ⟨rfl, k3⟩⟩, k3⟩
      rcases List.mem_append.mp hr with hr | hr
      · exact u2 r hr
      · rw [List.mem_singleton.mp hr]
        exact g3
    · rw [hn] at a1; cases a1
theorem NdOwn.at {K : PySem.W.Frag} {Hr H : Hp} {v : V} {kvs : List (NKey × W)} (r : NdOwn X.prog X.w O w kvs) (S : Sep K Hr O H) (k : WOk K Hr v w) : ∃ p rs, v = .ref p ∧ H p = some (NDo X.prog X.w p rs) ∧ RowsOk K Hr rs ∧ NCell K Hr rs kvs := by
  obtain ⟨p, j, rfl, hj⟩ := r
  cases k
  obtain ⟨rs, h1, h2, h3⟩ := S.cell hj
  exact ⟨p, rs, rfl, h1, h2, h3⟩
/-- k in d -/
theorem b_inN {k : NKey} {kvs : List (NKey × W)} (hu : X.A.units + 1 < cLine) (r : NdOwn X.prog X.w O w kvs) (h : P (.d (.bool (nget kvs k).isSome)) O) : BinD X (compareOp .In) (.d (nkD k)) w O P :=
  bind_of (r := fun y x H Q => ∃ a rs q, x = .ref a ∧ y = rowV q ∧ H a = some (NDo X.prog X.w a rs) ∧ RowsOk X.K H rs ∧ RowOk X.K H q ∧ Q (.bl (lookN rs (rowK q)).isSome) H) (fun pins s σ H y x u v Q I ry rx ⟨a, rs, q, ex, ey, g1, g2, g3, qq⟩ => by
    subst ex ey
    obtain rfl : v = Value.ref a := rx
    exact nd_in hu I g1 g2 g3 ry fun s3 I3 => ⟨.bl _, H, I3, rfl, qq⟩) fun v1 v2 Hr H Q hS h1 h2 hQ => by
    obtain ⟨p, rs, rfl, e1, e2, e3⟩ := r.at hS h2
    obtain ⟨q, g1, g2, g3⟩ := nkD_v h1
    refine ⟨p, rs, q, rfl, g1, e1, rowsOk_mono hS.ex e2, rowOk_mono hS.ex g3, hQ _ _ (po_here h hS ?_)⟩
    rw [g2]
    rcases nget_rows k e3 with ⟨x, y⟩ | ⟨v, d, x, y, _⟩ <;> rw [x, y] <;> exact .bl _
theorem b_niN {k : NKey} {kvs : List (NKey × W)} (hu : X.A.units + 1 < cLine) (r : NdOwn X.prog X.w O w kvs) (h : P (.d (.bool (!(nget kvs k).isSome))) O) : BinD X (compareOp .NotIn) (.d (nkD k)) w O P :=
  bind_of (r := fun y x H Q => ∃ a rs q, x = .ref a ∧ y = rowV q ∧ H a = some (NDo X.prog X.w a rs) ∧ RowsOk X.K H rs ∧ RowOk X.K H q ∧ Q (.bl (!(lookN rs (rowK q)).isSome)) H) (fun pins s σ H y x u v Q I ry rx ⟨a, rs, q, ex, ey, g1, g2, g3, qq⟩ => by
    subst ex ey
    obtain rfl : v = Value.ref a := rx
    exact nd_notIn hu I g1 g2 g3 ry fun s3 I3 => ⟨.bl _, H, I3, rfl, qq⟩) fun v1 v2 Hr H Q hS h1 h2 hQ => by
    obtain ⟨p, rs, rfl, e1, e2, e3⟩ := r.at hS h2
    obtain ⟨q, g1, g2, g3⟩ := nkD_v h1
    refine ⟨p, rs, q, rfl, g1, e1, rowsOk_mono hS.ex e2, rowOk_mono hS.ex g3, hQ _ _ (po_here h hS ?_)⟩
    rw [g2]
    rcases nget_rows k e3 with ⟨x, y⟩ | ⟨v, d, x, y, _⟩ <;> rw [x, y] <;> exact .bl _
end
end DL

set_option Elab.async false
set_option linter.all false
set_option maxRecDepth 100000
set_option maxHeartbeats 2000000
/-! dict comprehensions whose dict is of any kind: o0 the empty one, Put a store -/
namespace DG
open PySem PySem.Spec PyProof.Rows L2
/-- a kind of dicts that a comprehension may make -/
structure Kd (P : Program) (w : World) (K : PySem.W.Frag) where
  o0 : Addr → HO
  new : ∀ {H : Hp} (h : Heap), sysModules < h.objs.size → ObjOk P w H (h.push { cls := .type "dict", data := .dict #[] }) h.objs.size (o0 h.objs.size)
  Put : Hp → Addr → V → V → Hp → Prop
  put : ∀ {X : Cx} {pins : List (Addr × Obj)} {σ : L2.St} {H H' : Hp} {s : Shared} {E : Value → Shared → Prop} {D : Addr} {y z : V} {u r : Value} {Q : Unit → Shared → Prop}, X.prog = P → X.w = w → X.K = K → X.A.units < cLine →
    Inv X pins σ H s → Put H D y z H' → RelV y u → RelV z r → (∀ s', Inv X pins σ H' s' → Q () s') → wpAny (model X.prog X.w) X.A (dictSet D u r) Q E s
abbrev BX (X : Cx) (s : Shared) (H : Hp) (scope : Scope) (C : Addr) (cl : List (Str × Addr)) (fp : List Addr) : Cx := X.blk s H scope (compEnvC scope cl C X.env) fp
section
variable {X : Cx} (kd : Kd X.prog X.w X.K)
/-- what a round of the loop must do: it may stop, or it goes on with something smaller -/
def tDg (wi : TI) (g : TG) (tt : TT) (tk tv : TE) (vs : List Nat) : TE := fun σ H Q => wi σ H fun J H1 => ∀ D, H1 D = none → ∃ W : Nat → Nat → Hp → Prop, (∃ m, W 0 m (upd H1 D (kd.o0 D))) ∧ ∀ i m H, W i m H →
  (J.stop i H ∧ Q (.ref D) H) ∨ (J.go i H ∧ ∃ Nx : Hp → Prop, (∀ H', Nx H' → ∃ m', m' < m ∧ W (i + 1) m' H') ∧ ∀ x H', J.yld i H x H' → g x (wipe σ vs) H' fun σ2 H2 => wipe σ2 vs = wipe σ vs ∧ tt σ2 H2 fun b H3 =>
    if b = true then tk σ2 H3 fun y H4 => tv σ2 H4 fun z H5 => ∃ H6, kd.Put H5 D y z H6 ∧ Nx H6 else Nx H3)
variable {kx vx tg iter : Expr} {ifs : List Expr} {scope : Scope} {own : List (Str × Nat)} {pos : Pos} {wi : TI} {g : TG} {tt : TT} {tk tv : TE}
theorem pe_dg (hu : X.A.units < cLine) (hc : X.calm = true) (hN : X.N.Nodup) (hi : PI X tg iter wi) (ok : BlkOk X.N X.env.scope scope own)
    (hg : ∀ s H C cl fp, PG (BX X s H scope C cl fp) tg g) (ht : ∀ s H C cl fp, PTs (BX X s H scope C cl fp) ifs tt) (hk : ∀ s H C cl fp, PE (BX X s H scope C cl fp) kx tk) (he : ∀ s H C cl fp, PE (BX X s H scope C cl fp) vx tv)
    (hs : ∀ x, foldedSetIterable iter X.env x = pure x := by intro _; rfl) : PE X (.DictComp kx vx [⟨tg, iter, ifs, 0⟩] scope pos) (tDg kd wi g tt tk tv (own.map (·.2))) := by
  refine ⟨fun pins s σ H Q I h => ?_⟩
  rw [arm_eval_DictComp]
  have hcl : ∀ y ∈ scope.names, y.2 = .free → ∃ c, X.env.cells.lookup y.1 = some c := fun y hy e => (ok.free y hy e).elim (fun k => I.ok.has _ (.inl k)) fun k => I.ok.has _ (.inr k)
  refine wpAny_comprehension_free rfl hs (closure_ok hcl) ok.kind (fun y hy e => by rw [ok.uniq y hy, e]) (thn (hi.run pins s σ H _ I h) fun xv s1 hx => thn hx fun itv s2 h2 => ?_)
  obtain ⟨it, fp, tn, J, H2, e, I2, T, st2, f2, q⟩ := h2
  subst e
  refine wpAny_newObj_type (newEnv_comp ?_)
  have hDn : H2 s2.heap.objs.size = none := I2.hok.fresh (Nat.le_refl _)
  obtain ⟨W, ⟨m0, w0⟩, turn⟩ := q _ hDn
  have hob : ObjOk X.prog X.w (upd H2 s2.heap.objs.size (kd.o0 s2.heap.objs.size)) (s2.heap.push { cls := .type "dict", data := .dict #[] }) s2.heap.objs.size (kd.o0 s2.heap.objs.size) := kd.new s2.heap I2.big
  have hin : ∀ b ∈ fp, b < s2.heap.objs.size := fun b hb => by
    obtain ⟨o, e, _⟩ := T.obj _ _ st2 b hb
    exact Heap.lt_size e
  have hpu : ∀ b o, s2.heap.get? b = some o → (s2.heap.push { cls := .type "dict", data := .dict #[] }).get? b = some o := fun b o e => Heap.get?_push_of_some _ e
  have hsz : (s2.heap.push { cls := .type "dict", data := .dict #[] }).objs.size = s2.heap.objs.size + 1 := Heap.size_push ..
  generalize hD : s2.heap.objs.size = D at *
  generalize hhp : s2.heap.push { cls := .type "dict", data := .dict #[] } = h3 at *
  have I3 : Inv X pins σ (upd H2 D (kd.o0 D)) ({ s2 with heap := h3 } : Shared) := I2.laid (t' := s2.toks) hpu (Nat.le_of_eq hD) hob
  have f3 : ∀ b ∈ fp, FpOk X pins (upd H2 D (kd.o0 D)) b ∧ b < h3.objs.size := fun b hb =>
    ⟨⟨by rw [upd_ne (Nat.ne_of_lt (hin b hb))]; exact (f2 b hb).1, (f2 b hb).2⟩, by rw [hsz]; exact Nat.lt_succ_of_lt (hin b hb)⟩
  have st3 : tn 0 h3 := T.keep _ _ _ st2 fun b _ o e => hpu b o e
  generalize hs3 : ({ s2 with heap := h3 } : Shared) = s3 at I3 ⊢
  have eh : s3.heap = h3 := by rw [← hs3]
  rw [← eh] at f3 st3
  have I4 := block_start I3 ok hN f3
  have hnf : ∀ b ∈ fp, (upd H2 D (kd.o0 D)) b = none := fun b hb => (f3 b hb).1.1
  show codeAny _ _ (.compStart (.DictComp kx vx [⟨tg, iter, ifs, 0⟩] scope pos) 0 (.ref it) (.ref D) (compEnvC scope (cellsFrom (s3.heap.objs.size + 1) scope.names (cloFrom X.env.cells scope.names [])) s3.heap.objs.size X.env)) (compPost (model X.prog X.w) X.A X.xe none (EP X pins σ Q) (.ref D) s3.heap.objs.size) { s3 with heap := pushCells (s3.heap.push { cls := .type "dict", data := .dict #[] }) scope.names }
  have pg := hg s3 (upd H2 D (kd.o0 D)) s3.heap.objs.size (cellsFrom (s3.heap.objs.size + 1) scope.names (cloFrom X.env.cells scope.names [])) fp
  have pt := ht s3 (upd H2 D (kd.o0 D)) s3.heap.objs.size (cellsFrom (s3.heap.objs.size + 1) scope.names (cloFrom X.env.cells scope.names [])) fp
  have pk := hk s3 (upd H2 D (kd.o0 D)) s3.heap.objs.size (cellsFrom (s3.heap.objs.size + 1) scope.names (cloFrom X.env.cells scope.names [])) fp
  have pe := he s3 (upd H2 D (kd.o0 D)) s3.heap.objs.size (cellsFrom (s3.heap.objs.size + 1) scope.names (cloFrom X.env.cells scope.names [])) fp
  unfold BX at pg pt pk pe
  have st4 : tn 0 (pushCells (s3.heap.push { cls := .type "dict", data := .dict #[] }) scope.names) := T.keep _ _ _ st3 fun b _ o e => pushCells_keeps _ _ _ _ (Heap.get?_push_of_some _ e)
  generalize hce : compEnvC scope (cellsFrom (s3.heap.objs.size + 1) scope.names (cloFrom X.env.cells scope.names [])) s3.heap.objs.size X.env = ce at I4 pg pt pk pe ⊢
  have cL : ce.locals = s3.heap.objs.size := by
    subst hce
    rfl
  generalize upd H2 D (kd.o0 D) = H3 at I3 I4 pg pt pk pe w0 hnf f3
  generalize hs4 : ({ s3 with heap := pushCells (s3.heap.push { cls := .type "dict", data := .dict #[] }) scope.names } : Shared) = s4 at I4 ⊢
  replace st4 : tn 0 s4.heap := by
    rw [← hs4]
    exact st4
  -- what the walk's own objects are while a round runs
  have own_ : ∀ {σ' : L2.St} {H' : Hp} {s' : Shared}, Inv (X.blk s3 H3 scope ce fp) [] σ' H' s' → (∀ b ∈ fp, H' b = none) → ∀ b ∈ fp, FpOk (X.blk s3 H3 scope ce fp) [] H' b := fun I' hn b hb =>
    ⟨hn b hb, (I'.ok.exf b hb).1, I'.ok.exfs b hb, .inl hb, fun x c e => (I'.ok.exf b hb).2 x c e, fun p hp => absurd (show p ∈ ([] : List (Addr × Obj)) ++ [] from hp) (by simp)⟩
  have run : codeAny (model X.prog X.w) X.A (.compLoop (.DictComp kx vx [⟨tg, iter, ifs, 0⟩] scope pos) 0 (.ref it) (.ref D) ce) (compPost (model X.prog X.w) X.A X.xe none (EP X pins σ Q) (.ref D) s3.heap.objs.size) s4 := by
    refine compLoop_anyD (fun n s' => ∃ i H', Inv (X.blk s3 H3 scope ce fp) [] (wipe σ (own.map (·.2))) H' s' ∧ tn i s'.heap ∧ (∀ b ∈ fp, H' b = none) ∧ W i n H') (fun n s5 ⟨i, H5, I5, st5, n5, w5⟩ => ?_) m0 ⟨0, H3, I4, st4, hnf, w0⟩
    rcases turn i n H5 w5 with ⟨stop, qq⟩ | ⟨go, Nx, hNx, step⟩
    · refine thnF (T.done (X.blk s3 H3 scope ce fp) rfl rfl rfl hc i [] s5 _ H5 (fun _ _ => False) I5 (own_ I5 n5) st5 stop) fun r s6 ⟨hr, I6⟩ => ?_
      subst hr
      have nC : H5 s3.heap.objs.size = none := cL ▸ (I6.free : H5 ce.locals = none)
      obtain ⟨m, hn, _⟩ := I6.loc
      replace hn : s6.heap.Ns s3.heap.objs.size m := cL ▸ (hn : s6.heap.Ns ce.locals m)
      have I7 : Inv X pins σ H5 s6 := I3.call' (ch := fp) I6.os I6.base I6.hok I6.bare fun b hb => ⟨(f3 b hb).1.2.2.2.1, (f3 b hb).1.2.1, (f3 b hb).1.2.2.2.2.1, (f3 b hb).1.2.2.2.2.2⟩
      obtain ⟨g0, g1, g2, g3, g4, g5⟩ := I3.fpOk (Nat.le_refl _) nC
      exact ⟨m, hn, fun h'' sb => ⟨.ref D, H5, I7.turned (t' := s6.toks) (fun b o hb e => (sb.2 b hb).trans e) g0 g1 g3 g4 g5, rfl, qq⟩⟩
    · refine thnF (T.item (X.blk s3 H3 scope ce fp) rfl rfl rfl hc i [] s5 _ H5 (fun _ _ => False) I5 (own_ I5 n5) st5 go) fun r s6 ⟨u, hr, h6⟩ => ?_
      subst hr
      refine thnF h6 fun _ s7 ⟨x, H7, I7, r7, y7, st7, n7⟩ => ?_
      have Ip := I7.pinned (own_ I7 n7) (T.obj _ _ st7)
      refine thnF (pg.run _ s7 _ H7 x u _ Ip r7 (step x H7 y7)) fun _ s8 ⟨σ8, H8, I8, hw8, q8⟩ => ?_
      refine thnF (pt.run _ s8 σ8 H8 _ I8 q8) fun b s9 ⟨H9, I9, q9⟩ => ?_
      have fin : ∀ {s' : Shared} {H' : Hp}, Inv (X.blk s3 H3 scope ce fp) ([] ++ pinsAt fp s7.heap) σ8 H' s' → Nx H' → ∃ m, m < n ∧ ∃ i H', Inv (X.blk s3 H3 scope ce fp) [] (wipe σ (own.map (·.2))) H' s' ∧ tn i s'.heap ∧ (∀ b ∈ fp, H' b = none) ∧ W i m H' := fun {s' H'} I' nx => by
        obtain ⟨m', hm, w'⟩ := hNx H' nx
        have pin' : ∀ b ∈ fp, ∀ o, s7.heap.get? b = some o → s'.heap.get? b = some o ∧ H' b = none := fun b hb o e => by
          obtain ⟨z1, z2, _⟩ := I'.pin (b, o) (List.mem_append_right _ (List.mem_append_right _ (mem_pinsAt hb e)))
          exact ⟨z1, z2⟩
        refine ⟨m', hm, i + 1, H', (I'.unpinned (pins := [])).weak (by rw [← hw8, wipe_length]) (fun j v e => (wipe_some (hw8 ▸ e)).1), T.keep _ _ _ st7 fun b hb o e => (pin' b hb o e).1, fun b hb => ?_, w'⟩
        obtain ⟨o, e, _⟩ := T.obj _ _ st7 b hb
        exact (pin' b hb o e).2
      cases b with
      | false => exact fin I9 q9
      | true =>
        refine thnF (pk.run _ s9 σ8 H9 _ I9 q9) fun z s10 ⟨yk, H10, I10, r10, q10⟩ => ?_
        refine thnF (pe.run _ s10 σ8 H10 _ I10 q10) fun z2 s11 ⟨yv, H11, I11, r11, H12, hp, nx⟩ => ?_
        exact kd.put (X := X.blk s3 H3 scope ce fp) rfl rfl rfl hu I11 hp r10 r11 fun s12 I12 => fin I12 nx
  exact codeAny_compStart_dict run (T.self X.A 0 _ _ _ st4 run)
end
end DG

set_option Elab.async false
set_option linter.all false
set_option maxRecDepth 100000
set_option maxHeartbeats 2000000
/-! dict comprehensions with None and tuples as keys; d[k] -/
namespace DG
open PySem PySem.Spec PyProof.Rows L2 ND
def ndK (P : Program) (w : World) (K : PySem.W.Frag) : Kd P w K where
  o0 := fun a => NDo P w a []
  new := fun h hb => nd_empty h hb
  Put := fun H D y z H' => ∃ rs q, H D = some (NDo P w D rs) ∧ RowsOk K H rs ∧ y = rowV q ∧ RowOk K H q ∧ rs.length < sizeLine ∧ H' = upd H D (NDo P w D (putN rs q z))
  put := @fun X pins σ H H' s E D y z u r Q e1 e2 e3 hu I hp ry rz h => by
    subst e1 e2 e3
    obtain ⟨rs, q, g1, g2, g3, g4, g5, g6⟩ := hp
    subst g3 g6
    exact nd_set hu I g1 g2 g4 ry rz g5 h
/-- d[y], there -/
def tNItem (X : Cx) (td ty : TE) : TE := fun σ H Q => td σ H fun x H1 => ty σ H1 fun y H2 => ∃ a rs q v, x = .ref a ∧ y = rowV q ∧ H2 a = some (NDo X.prog X.w a rs) ∧ RowsOk X.K H2 rs ∧ RowOk X.K H2 q ∧ lookN rs (rowK q) = some v ∧ Q v H2
theorem pe_nitem {X : Cx} {o i : Expr} {pos : Pos} {td ty : TE} (hu : X.A.units + 1 < cLine) (ho : PE X o td) (hi : PE X i ty) (hs : NoSl i) : PE X (.Subscript o i pos) (tNItem X td ty) := by
  refine ⟨fun pins s σ H Q I h => ?_⟩
  refine subD_of PySem.F.slot_dict_getitem.lookup hs (thn (ho.run pins s σ H _ I h) fun u s1 ⟨x, H1, I1, rx, q1⟩ => thn (hi.run pins s1 σ H1 _ I1 q1) fun iv s2 ⟨y, H2, I2, ry, a, rs, q, v, ex, ey, g1, g2, g3, g4, q2⟩ => ?_)
  subst ex ey
  obtain rfl : u = Value.ref a := rx
  exact ⟨(isN_at I2 g1).1, nd_item hu I2 g1 g2 g3 ry g4 fun w' s3 I3 rw' => ⟨v, H2, I3, rw', q2⟩⟩
/-- the walk of any kind of things, the dict by what holds behind each -/
theorem dg_it {X : Cx} (kd : Kd X.prog X.w X.K) {J : It} {n : Nat} {G : Hp → Prop} {Y : Nat → Hp → V → Hp → Prop} (w : Walk J n G Y) {g : TG} {tt : TT} {tk tv : TE} {vs : List Nat} {σ : L2.St} {H1 : Hp} {D : Addr} {Qd : Hp → Prop} (Pv : Nat → Hp → Prop) (h0 : Pv 0 (upd H1 D (kd.o0 D))) (hG : ∀ i H, i ≤ n → Pv i H → G H)
    (hs : ∀ i x H H', i < n → Pv i H → Y i H x H' → g x (wipe σ vs) H' fun σ2 H2 => wipe σ2 vs = wipe σ vs ∧ tt σ2 H2 fun b H3 =>
      if b = true then tk σ2 H3 fun y H4 => tv σ2 H4 fun z H5 => ∃ H6, kd.Put H5 D y z H6 ∧ Pv (i + 1) H6 else Pv (i + 1) H3) (hd : ∀ H, Pv n H → Qd H) :
    ∃ W : Nat → Nat → Hp → Prop, (∃ m, W 0 m (upd H1 D (kd.o0 D))) ∧ ∀ i m H, W i m H →
      (J.stop i H ∧ Qd H) ∨ (J.go i H ∧ ∃ Nx : Hp → Prop, (∀ H', Nx H' → ∃ m', m' < m ∧ W (i + 1) m' H') ∧ ∀ x H', J.yld i H x H' → g x (wipe σ vs) H' fun σ2 H2 => wipe σ2 vs = wipe σ vs ∧ tt σ2 H2 fun b H3 =>
        if b = true then tk σ2 H3 fun y H4 => tv σ2 H4 fun z H5 => ∃ H6, kd.Put H5 D y z H6 ∧ Nx H6 else Nx H3) := by
  refine ⟨fun i m H => m = n - i ∧ i ≤ n ∧ Pv i H, ⟨n, by simp, Nat.zero_le _, h0⟩, ?_⟩
  rintro i m H ⟨rfl, hi, p⟩
  have q := hG i H hi p
  by_cases hlt : i < n
  · exact .inr ⟨w.goes i H hlt q, Pv (i + 1), fun H' p' => ⟨n - (i + 1), by omega, rfl, hlt, p'⟩, fun x H' y => hs i x H H' hlt p (w.yields i H x H' hlt q y)⟩
  · have e : i = n := by omega
    subst e
    exact .inl ⟨w.stops H q, hd H p⟩
end DG
namespace DL
open PySem PySem.Spec PyProof.Rows L2 ND DG
section
variable {X : Cx} {τ : Tau} {O : Own} {P : W → Own → Prop} {a b kx vx t iter : Expr} {ifs : List Expr} {scope : Scope} {pos : Pos} {g : TG}
/-- d[k], there -/
theorem de_nitem (hu : X.A.units + 1 < cLine) (h : DE X τ O a fun w1 O1 => DE X τ O1 b fun w2 O2 => ∃ (kvs : List (NKey × W)) (k : NKey) (w : W), NdOwn X.prog X.w O2 w1 kvs ∧ w2 = .d (nkD k) ∧ nget kvs k = some w ∧ P w O2) (hs : NoSl b := by exact fun _ _ => rfl) : DE X τ O (.Subscript a b pos) P := by
  refine ⟨?_⟩
  intro σ Hr H Q hE hS hQ pins s I
  refine (pe_nitem hu pe_te pe_te hs).run pins s σ H Q I ?_
  refine h σ Hr H _ hE hS fun x H1 ⟨w1, O1, Hr1, h1, e1, s1, k1⟩ => ?_
  refine h1 σ Hr1 H1 _ (hE.mono e1) s1 fun y H2 ⟨w2, O2, Hr2, ⟨kvs, k, w, r, hw, hv, hp⟩, e2, s2, k2⟩ => ?_
  obtain ⟨p, rs, rfl, q1, q2, q3⟩ := r.at s2 (k1.mono e2)
  subst hw
  obtain ⟨q, g1, g2, g3⟩ := nkD_v k2
  subst g2
  rcases nget_rows (rowK q) q3 with ⟨x, y⟩ | ⟨v, w', x, y, z⟩
  · rw [hv] at y; cases y
  · rw [hv] at y
    cases y
    exact ⟨p, rs, q, v, rfl, g1, q1, rowsOk_mono s2.ex q2, rowOk_mono s2.ex g3, x, hQ _ _ ⟨w, O2, Hr2, hp, e1.trans e2, s2, z⟩⟩
/-- what a dict comprehension makes -/
def ncF (kf : PyData → NKey) (vf : PyData → PyData) (kp : PyData → Bool) (ds : List PyData) : List (NKey × W) := ds.foldl (fun acc d => if kp d = true then nput acc (kf d) (.d (vf d)) else acc) []
def NcD (X : Cx) (τ : Tau) (O : Own) (kx vx : Expr) (ifs : List Expr) (scope : Scope) (vs : List Nat) (g : TG) (P : Addr → List (NKey × W) → Own → Prop) (ds : List PyData) : Prop :=
  ∃ (kf : PyData → NKey) (vf : PyData → PyData) (kp : PyData → Bool), ds.length < sizeLine ∧
    (∀ (i : Nat) (d : PyData), ds[i]? = some d → ∃ τ2, TgOk X.K g vs d (wipeT τ vs) τ2 ∧ ∀ (c : Addr × Cell) (s : Shared) (H : Hp) (C : Addr) (cl : List (Str × Addr)) (fp : List Addr),
      DTs (blk X scope s H C cl fp) τ2 (c :: O) ifs (fun b O3 => b = kp d ∧ O3 = c :: O) ∧
      (kp d = true → DE (blk X scope s H C cl fp) τ2 (c :: O) kx (fun w O4 => w = .d (nkD (kf d)) ∧ O4 = c :: O) ∧
        DE (blk X scope s H C cl fp) τ2 (c :: O) vx (fun w O4 => w = .d (vf d) ∧ O4 = c :: O))) ∧
    ∀ p, P p (ncF kf vf kp ds) O
theorem nfold_len (kf : PyData → NKey) (vf : PyData → PyData) (kp : PyData → Bool) : ∀ (ds : List PyData) (acc : List (NKey × W)), (ds.foldl (fun acc d => if kp d = true then nput acc (kf d) (.d (vf d)) else acc) acc).length ≤ acc.length + ds.length
  | [], acc => Nat.le_refl _
  | d :: ds, acc => by
    rw [List.foldl_cons]
    refine Nat.le_trans (nfold_len kf vf kp ds _) ?_
    have := nput_len acc (kf d) (.d (vf d))
    simp only [List.length_cons]
    split <;> omega
theorem de_ncO (own : List (Str × Nat)) (g : TG) (hN : X.N.Nodup) (hu : X.A.units < cLine) (ok : BlkOk X.N X.env.scope scope own) (hg : ∀ (s : Shared) (H : Hp) (C : Addr) (cl : List (Str × Addr)) (fp : List Addr), PG (blk X scope s H C cl fp) t g)
    (h : IterD X t iter τ O fun ds O1 => NcD X τ O1 kx vx ifs scope (own.map (·.2)) g (fun p acc O2 => P (.r (.ref p)) ((p, .x (NXc X.prog X.w acc)) :: O2)) ds) (hc : X.calm = true := by rfl) (hs : ∀ x, foldedSetIterable iter X.env x = pure x := by intro _; rfl) :
    DE X τ O (.DictComp kx vx [⟨t, iter, ifs, 0⟩] scope pos) P := by
  refine ⟨?_⟩
  intro σ Hr H Q hE hS hQ pins s I
  refine (pe_dg (ndK X.prog X.w X.K) (own := own) (tt := tIfs X scope ifs) (tk := tElt X scope kx) (tv := tElt X scope vx) hu hc hN pi_ti ok hg (fun s H C cl fp => ⟨fun pins s1 σ H1 Q I h => h s H C cl fp pins s1 I⟩) (fun s H C cl fp => ⟨fun pins s1 σ H1 Q I h => h s H C cl fp pins s1 I⟩) (fun s H C cl fp => ⟨fun pins s1 σ H1 Q I h => h s H C cl fp pins s1 I⟩) hs).run pins s σ H Q I ?_
  refine h σ Hr H _ hE hS fun J H1 ds O1 Hr1 ⟨kf, vf, kp, hz, hstep, hend⟩ e1 s1 ok => ?_
  intro Dl hD
  refine dg_it (ndK X.prog X.w X.K) ok (g := g) (vs := own.map (·.2)) (σ := σ) (tt := tIfs X scope ifs) (tk := tElt X scope kx) (tv := tElt X scope vx) (Qd := fun H' => Q (.ref Dl) H') (fun i H' => ∃ (Hr' : Hp), Same Hr1 Hr' ∧ Sep X.K Hr' ((Dl, .x (NXc X.prog X.w ((ds.take i).foldl (fun acc d => if kp d = true then nput acc (kf d) (.d (vf d)) else acc) []))) :: O1) H') ⟨Hr1, Same.refl _, s1.newOwn (c := .x (NXc X.prog X.w [])) hD ⟨[], upd_same, (fun r hr => nomatch hr), .nil⟩⟩ (fun i H' _ ⟨Hr', e, s'⟩ => fun a o q => s'.ex a o (e a o q)) ?_ ?_
  · intro i x H2 H3 hi ⟨Hr', e, s'⟩ y
    obtain ⟨d, Hr2, hd, e2, s2, kd⟩ := y.sep e s'
    obtain ⟨τ2, htg, hb⟩ := hstep i d hd
    have e3 : Same Hr Hr2 := (e1.trans e).trans e2
    refine htg x (wipe σ (own.map (·.2))) Hr2 H3 _ ((hE.mono e3).wiped (own.map (·.2))) s2.ex kd ?_
    intro σ' hE' hw
    refine ⟨hw σ rfl, ?_⟩
    have eN : (ds.take (i + 1)).foldl (fun acc d => if kp d = true then nput acc (kf d) (.d (vf d)) else acc) [] = if kp d = true then nput ((ds.take i).foldl (fun acc d => if kp d = true then nput acc (kf d) (.d (vf d)) else acc) []) (kf d) (.d (vf d)) else (ds.take i).foldl (fun acc d => if kp d = true then nput acc (kf d) (.d (vf d)) else acc) [] := by
      rw [List.take_succ, hd, List.foldl_append]
      rfl
    have hl := nfold_len kf vf kp (ds.take i) []
    rw [eN]
    generalize (ds.take i).foldl (fun acc d => if kp d = true then nput acc (kf d) (.d (vf d)) else acc) [] = acc at s2 hl ⊢
    intro s0 H0 C cl fp
    refine (hb (Dl, .x (NXc X.prog X.w acc)) s0 H0 C cl fp).1 σ' Hr2 H3 _ hE' s2 fun k H4 ⟨O4, Hr4, ⟨hk, p4⟩, e4, s4⟩ => ?_
    subst p4
    cases k with
    | true =>
      rw [if_pos rfl]
      rw [if_pos hk.symm]
      intro s0 H0 C cl fp
      obtain ⟨m1, m2⟩ := (hb (Dl, .x (NXc X.prog X.w acc)) s0 H0 C cl fp).2 hk.symm
      refine m1 σ' Hr4 H4 _ (hE'.mono e4) s4 fun y H5 ⟨w, O5, Hr5, ⟨hw, ho⟩, e5, s5, k5⟩ => ?_
      subst hw ho
      intro s0 H0 C cl fp
      obtain ⟨m1, m2⟩ := (hb (Dl, .x (NXc X.prog X.w acc)) s0 H0 C cl fp).2 hk.symm
      refine m2 σ' Hr5 H5 _ (hE'.mono (e4.trans e5)) s5 fun z H6 ⟨w, O6, Hr6, ⟨hw, ho⟩, e6, s6, k6⟩ => ?_
      subst hw ho
      obtain ⟨rs, u1, u2, u3⟩ := s6.cell (j := 0) rfl
      obtain ⟨q, g1, g2, g3⟩ := nkD_v (k5.mono e6)
      have hlen : rs.length < sizeLine := by
        rw [u3.len]
        refine Nat.lt_of_le_of_lt hl (Nat.lt_of_le_of_lt ?_ hz)
        simp [List.length_take]
        omega
      rw [← g2]
      refine ⟨_, ⟨rs, q, u1, rowsOk_mono s6.ex u2, g1, rowOk_mono s6.ex g3, hlen, rfl⟩, Hr6, (((e.trans e2).trans e4).trans e5).trans e6, s6.put (j := 0) rfl (c' := .x (NXc X.prog X.w _)) ⟨_, upd_same, fun r hr => ?_, u3.put k6⟩⟩
      unfold putN at hr
      split at hr
      · obtain ⟨r', hr', rfl⟩ := List.mem_map.mp hr
        unfold putN1
        split <;> exact u2 r' hr'
      · rcases List.mem_append.mp hr with hr | hr
        · exact u2 r hr
        · rw [List.mem_singleton.mp hr]
          exact g3
    | false =>
      rw [if_neg Bool.false_ne_true, if_neg (by rw [← hk]; exact Bool.false_ne_true)]
      exact ⟨Hr4, (e.trans e2).trans e4, s4⟩
  · intro H' ⟨Hr', e, s'⟩
    rw [List.take_length] at s'
    exact hQ _ _ ⟨_, _, Hr', hend Dl, e1.trans e, s', rfl⟩
theorem de_nc1 {y : Str} {tp : Pos} (i : Nat) (hN : X.N.Nodup) (hu : X.A.units < cLine) (ok : BlkOk X.N X.env.scope scope [(y, i)])
    (h : IterD X (.Name y tp) iter τ O fun ds O1 => NcD X τ O1 kx vx ifs scope [i] (gName i) (fun p acc O2 => P (.r (.ref p)) ((p, .x (NXc X.prog X.w acc)) :: O2)) ds)
    (hg : ∀ (s : Shared) (H : Hp) (C : Addr) (cl : List (Str × Addr)) (fp : List Addr), PG (blk X scope s H C cl fp) (.Name y tp) (gName i) := by exact fun _ _ _ _ _ => pg_name (by assumption) rfl (by first | exact Or.inl rfl | exact Or.inr rfl)) (hc : X.calm = true := by rfl) (hs : ∀ x, foldedSetIterable iter X.env x = pure x := by intro _; rfl) :
    DE X τ O (.DictComp kx vx [⟨.Name y tp, iter, ifs, 0⟩] scope pos) P := de_ncO [(y, i)] (gName i) hN hu ok hg h hc hs
end
end DL

set_option Elab.async false
set_option linter.all false
set_option maxRecDepth 100000
set_option maxHeartbeats 2000000
/-! d[k] = v, d a dict with None and tuples as keys -/
namespace ND
open PySem PySem.Spec PyProof.Rows
open Sem (wp)
section
variable {P : Program} {w : World} {κ : Type} [DecidableEq κ] {kn : Kn P w κ} {A : Around} {E : Value → Shared → Prop} {s : Shared}
theorem setItem_ {d : Addr} {u v : Value} {k : κ} {rs : List (Row κ)} {Q : Unit → Shared → Prop} (hr : kn.rm A.in1) (hk : kn.at_ s.heap k u) (hh : Has kn s.heap d rs) (hsz : rs.length ≤ sizeLine)
    (hQ : ∀ h', Has kn h' d (putRs rs k u v) → Heap.SameBut d s.heap h' → Q () { s with heap := h', toks := s.toks + kn.tk k }) : wpAny (model P w) A (setItem (.ref d) u v) Q E s := by
  unfold setItem
  try with_reducible refine wpAny_holding ?_
  refine wpAny_bind (wpAny_sequenceKey hh.typeIs (by decide) ?_)
  refine wpAny_bind (wpAny_callSpecial?_slot (name := Str.ofString "__setitem__") hh.typeIs slot_dict_setitem
    (wpAny_call_entry slot_dict_setitem hh.typeIs entry_dict_setitem ?_ (args_dict_setitem _ _ _)))
  show wpAny _ _ (Builtin.Dict.notOrdered "__setitem__" ⟨[.ref d, u, v], []⟩ >>= _) _ _ s
  refine wpAny_bind (wpAny_notOrdered_dict hh.typeIs ?_)
  show wpAny _ _ (dictSet d u v >>= _) _ _ s
  exact wpAny_bind (set_ hr hk hh hsz fun h' hm' hs' => wpAny_pure ⟨.none, rfl, wpAny_pure (hQ h' hm' hs')⟩)
end
end ND
namespace DL
open PySem PySem.Spec PyProof.Rows L2 ND DG
/-- o[i] = v, by values -/
def rSetN (X : Cx) : TSet := fun o i v H Q => ∃ a rs q, o = .ref a ∧ H a = some (NDo X.prog X.w a rs) ∧ RowsOk X.K H rs ∧ i = rowV q ∧ RowOk X.K H q ∧ rs.length < sizeLine ∧ Q (upd H a (NDo X.prog X.w a (putN rs q v)))
theorem set_ndict {X : Cx} (hu : X.A.units + 1 < cLine) : PSet X (rSetN X) := by
  intro pins s σ H o i v ov iv u Q I ro ri rv h
  obtain ⟨a, rs, q, eo, e, h1, ei, h2, hz, hq⟩ := h
  subst eo ei
  cases (show ov = Value.ref a from ro)
  obtain ⟨g1, g2, xs, hx, hs⟩ := nd_has I e h1
  have hl := Paired.length hx
  have hp := putN_len rs q v
  cases rowV_u ri
  exact setItem_ hu (row_at I h2) hs (by rw [← hl]; exact g2) fun h' hh' sb => ⟨_, nd_write (t' := s.toks + (nk X.prog X.w).tk (rowK q)) I e g1 (by omega) (raw_put hx rv) hh' sb, hq⟩
section
variable {X : Cx} {τ : Tau} {O : Own} {D : DEn} {e o i : Expr} {pos : Pos}
theorem ds_subN {pos' : Pos} (hu : X.A.units + 1 < cLine) (h : DE X τ O e fun w O1 => DE X τ O1 o fun wo O2 => DE X τ O2 i fun wi O3 =>
      ∃ (p : Addr) (j : Nat) (kvs : List (NKey × W)) (k : NKey), wo = .r (.ref p) ∧ wi = .d (nkD k) ∧ O3[j]? = some (p, .x (NXc X.prog X.w kvs)) ∧ kvs.length < sizeLine ∧ D.nx τ (O3.set j (p, .x (NXc X.prog X.w (nput kvs k w)))))
    (hs : swapsWithSole [.Subscript o i pos'] e pos.line X.env = pure false := by rfl) (hw : swappedStores [.Subscript o i pos'] e X.env = pure none := by rfl)
    (h1 : (assignEach [.Subscript o i pos'] X.env).map (·.2) = [assign (.Subscript o i pos') X.env] := by rfl)
    (ha : ∀ v, assign (.Subscript o i pos') X.env v = (do
      let ov ← holding [v] (eval o X.env)
      let iv ← holding [v, ov] (eval i X.env)
      standAt pos'
      holding [v, ov, iv] (setItem ov iv v)
      release [v, ov, iv] []) := by intro _; rfl) : DS X τ O (.Assign [.Subscript o i pos'] e pos) D := by
  refine ⟨?_⟩
  intro σ Hr H E hE hS hD pins s I
  refine (ps_asg pe_te (pg_sub pe_te pe_te (set_ndict hu) ha) hs hw h1).run pins s σ H E I ?_
  refine h σ Hr H _ hE hS fun v1 H1 ⟨w1, O1, Hr1, h1, e1, s1, k1⟩ => ?_
  refine h1 σ Hr1 H1 _ (hE.mono e1) s1 fun v2 H2 ⟨w2, O2, Hr2, h2, e2, s2, k2⟩ => ?_
  refine h2 σ Hr2 H2 _ (hE.mono (e1.trans e2)) s2 fun v3 H3 ⟨w3, O3, Hr3, ⟨p, j, kvs, k, q2, q3, hj, hz, hx⟩, e3, s3, k3⟩ => ?_
  subst q2 q3
  cases k2
  obtain ⟨q, g1, g2, g3⟩ := nkD_v k3
  subst g2
  obtain ⟨rs, u1, u2, u3⟩ := s3.cell hj
  have kw : WOk X.K Hr3 v1 w1 := k1.mono (e2.trans e3)
  refine ⟨p, rs, q, rfl, u1, rowsOk_mono s3.ex u2, g1, rowOk_mono s3.ex g3, by rw [u3.len]; exact hz, ?_⟩
  refine hD.nx _ _ ⟨_, _, Hr3, hx, (e1.trans e2).trans e3, s3.put hj (c' := .x (NXc X.prog X.w _)) ⟨putN rs q v1, upd_same, fun r hr => ?_, u3.put kw⟩, hE.mono ((e1.trans e2).trans e3)⟩
  unfold putN at hr
  split at hr
  · obtain ⟨r', hr', rfl⟩ := List.mem_map.mp hr
    unfold putN1
    split
    · exact u2 r' hr'
    · exact u2 r' hr'
  · rcases List.mem_append.mp hr with z | z
    · exact u2 r z
    · rw [List.mem_singleton.mp z]
      exact g3
end
end DL

set_option Elab.async false
set_option linter.all false
set_option maxRecDepth 100000
set_option maxHeartbeats 2000000
/-! name = {k: v for ..}: a dict comprehension that is kept at once -/
namespace DG
open PySem PySem.Spec PyProof.Rows L2
section
variable {X : Cx} (kd : Kd X.prog X.w X.K)
variable {kx vx tg iter : Expr} {ifs : List Expr} {scope : Scope} {own : List (Str × Nat)} {pos : Pos} {wi : TI} {g : TG} {tt : TT} {tk tv : TE}
theorem dg_core {pins : List (Addr × Obj)} {s : Shared} {σ : L2.St} {H : Hp} {Q : VK} {pos' : Pos} {use : Option (Value → Sem Unit)} {Qf : Value → Shared → Prop} (hu : X.A.units < cLine) (hc : X.calm = true) (hN : X.N.Nodup) (I : Inv X pins σ H s) (hi : PI X tg iter wi) (ok : BlkOk X.N X.env.scope scope own)
    (hg : ∀ s H C cl fp, PG (BX X s H scope C cl fp) tg g) (ht : ∀ s H C cl fp, PTs (BX X s H scope C cl fp) ifs tt) (hk : ∀ s H C cl fp, PE (BX X s H scope C cl fp) kx tk) (he : ∀ s H C cl fp, PE (BX X s H scope C cl fp) vx tv)
    (hs : ∀ x, foldedSetIterable iter X.env x = pure x) (h : tDg kd wi g tt tk tv (own.map (·.2)) σ H Q)
    (hRR : ∀ D C s' m H', Inv X pins σ H' s' → Q (.ref D) H' → s'.heap.Ns C m → FpOk X pins H' C → compPost (model X.prog X.w) X.A X.xe use Qf (.ref D) C (.ok .next) s') :
    wpAny (model X.prog X.w) X.A (comprehension (.DictComp kx vx [⟨tg, iter, ifs, 0⟩] scope pos) scope X.env pos' newDict false (eval iter X.env) use) Qf X.xe s := by
  have hcl : ∀ y ∈ scope.names, y.2 = .free → ∃ c, X.env.cells.lookup y.1 = some c := fun y hy e => (ok.free y hy e).elim (fun k => I.ok.has _ (.inl k)) fun k => I.ok.has _ (.inr k)
  refine wpAny_comprehension_free (use := use) rfl hs (closure_ok hcl) ok.kind (fun y hy e => by rw [ok.uniq y hy, e]) (thn (hi.run pins s σ H _ I h) fun xv s1 hx => thn hx fun itv s2 h2 => ?_)
  obtain ⟨it, fp, tn, J, H2, e, I2, T, st2, f2, q⟩ := h2
  subst e
  refine wpAny_newObj_type (newEnv_comp ?_)
  have hDn : H2 s2.heap.objs.size = none := I2.hok.fresh (Nat.le_refl _)
  obtain ⟨W, ⟨m0, w0⟩, turn⟩ := q _ hDn
  have hob : ObjOk X.prog X.w (upd H2 s2.heap.objs.size (kd.o0 s2.heap.objs.size)) (s2.heap.push { cls := .type "dict", data := .dict #[] }) s2.heap.objs.size (kd.o0 s2.heap.objs.size) := kd.new s2.heap I2.big
  have hin : ∀ b ∈ fp, b < s2.heap.objs.size := fun b hb => by
    obtain ⟨o, e, _⟩ := T.obj _ _ st2 b hb
    exact Heap.lt_size e
  have hpu : ∀ b o, s2.heap.get? b = some o → (s2.heap.push { cls := .type "dict", data := .dict #[] }).get? b = some o := fun b o e => Heap.get?_push_of_some _ e
  have hsz : (s2.heap.push { cls := .type "dict", data := .dict #[] }).objs.size = s2.heap.objs.size + 1 := Heap.size_push ..
  generalize hD : s2.heap.objs.size = D at *
  generalize hhp : s2.heap.push { cls := .type "dict", data := .dict #[] } = h3 at *
  have I3 : Inv X pins σ (upd H2 D (kd.o0 D)) ({ s2 with heap := h3 } : Shared) := I2.laid (t' := s2.toks) hpu (Nat.le_of_eq hD) hob
  have f3 : ∀ b ∈ fp, FpOk X pins (upd H2 D (kd.o0 D)) b ∧ b < h3.objs.size := fun b hb =>
    ⟨⟨by rw [upd_ne (Nat.ne_of_lt (hin b hb))]; exact (f2 b hb).1, (f2 b hb).2⟩, by rw [hsz]; exact Nat.lt_succ_of_lt (hin b hb)⟩
  have st3 : tn 0 h3 := T.keep _ _ _ st2 fun b _ o e => hpu b o e
  generalize hs3 : ({ s2 with heap := h3 } : Shared) = s3 at I3 ⊢
  have eh : s3.heap = h3 := by rw [← hs3]
  rw [← eh] at f3 st3
  have I4 := block_start I3 ok hN f3
  have hnf : ∀ b ∈ fp, (upd H2 D (kd.o0 D)) b = none := fun b hb => (f3 b hb).1.1
  show codeAny _ _ (.compStart (.DictComp kx vx [⟨tg, iter, ifs, 0⟩] scope pos) 0 (.ref it) (.ref D) (compEnvC scope (cellsFrom (s3.heap.objs.size + 1) scope.names (cloFrom X.env.cells scope.names [])) s3.heap.objs.size X.env)) (compPost (model X.prog X.w) X.A X.xe use Qf (.ref D) s3.heap.objs.size) { s3 with heap := pushCells (s3.heap.push { cls := .type "dict", data := .dict #[] }) scope.names }
  have pg := hg s3 (upd H2 D (kd.o0 D)) s3.heap.objs.size (cellsFrom (s3.heap.objs.size + 1) scope.names (cloFrom X.env.cells scope.names [])) fp
  have pt := ht s3 (upd H2 D (kd.o0 D)) s3.heap.objs.size (cellsFrom (s3.heap.objs.size + 1) scope.names (cloFrom X.env.cells scope.names [])) fp
  have pk := hk s3 (upd H2 D (kd.o0 D)) s3.heap.objs.size (cellsFrom (s3.heap.objs.size + 1) scope.names (cloFrom X.env.cells scope.names [])) fp
  have pe := he s3 (upd H2 D (kd.o0 D)) s3.heap.objs.size (cellsFrom (s3.heap.objs.size + 1) scope.names (cloFrom X.env.cells scope.names [])) fp
  unfold BX at pg pt pk pe
  have st4 : tn 0 (pushCells (s3.heap.push { cls := .type "dict", data := .dict #[] }) scope.names) := T.keep _ _ _ st3 fun b _ o e => pushCells_keeps _ _ _ _ (Heap.get?_push_of_some _ e)
  generalize hce : compEnvC scope (cellsFrom (s3.heap.objs.size + 1) scope.names (cloFrom X.env.cells scope.names [])) s3.heap.objs.size X.env = ce at I4 pg pt pk pe ⊢
  have cL : ce.locals = s3.heap.objs.size := by
    subst hce
    rfl
  generalize upd H2 D (kd.o0 D) = H3 at I3 I4 pg pt pk pe w0 hnf f3
  generalize hs4 : ({ s3 with heap := pushCells (s3.heap.push { cls := .type "dict", data := .dict #[] }) scope.names } : Shared) = s4 at I4 ⊢
  replace st4 : tn 0 s4.heap := by
    rw [← hs4]
    exact st4
  -- what the walk's own objects are while a round runs
  have own_ : ∀ {σ' : L2.St} {H' : Hp} {s' : Shared}, Inv (X.blk s3 H3 scope ce fp) [] σ' H' s' → (∀ b ∈ fp, H' b = none) → ∀ b ∈ fp, FpOk (X.blk s3 H3 scope ce fp) [] H' b := fun I' hn b hb =>
    ⟨hn b hb, (I'.ok.exf b hb).1, I'.ok.exfs b hb, .inl hb, fun x c e => (I'.ok.exf b hb).2 x c e, fun p hp => absurd (show p ∈ ([] : List (Addr × Obj)) ++ [] from hp) (by simp)⟩
  have run : codeAny (model X.prog X.w) X.A (.compLoop (.DictComp kx vx [⟨tg, iter, ifs, 0⟩] scope pos) 0 (.ref it) (.ref D) ce) (compPost (model X.prog X.w) X.A X.xe use Qf (.ref D) s3.heap.objs.size) s4 := by
    refine compLoop_anyD (fun n s' => ∃ i H', Inv (X.blk s3 H3 scope ce fp) [] (wipe σ (own.map (·.2))) H' s' ∧ tn i s'.heap ∧ (∀ b ∈ fp, H' b = none) ∧ W i n H') (fun n s5 ⟨i, H5, I5, st5, n5, w5⟩ => ?_) m0 ⟨0, H3, I4, st4, hnf, w0⟩
    rcases turn i n H5 w5 with ⟨stop, qq⟩ | ⟨go, Nx, hNx, step⟩
    · refine thnF (T.done (X.blk s3 H3 scope ce fp) rfl rfl rfl hc i [] s5 _ H5 (fun _ _ => False) I5 (own_ I5 n5) st5 stop) fun r s6 ⟨hr, I6⟩ => ?_
      subst hr
      have nC : H5 s3.heap.objs.size = none := cL ▸ (I6.free : H5 ce.locals = none)
      obtain ⟨m, hn, _⟩ := I6.loc
      replace hn : s6.heap.Ns s3.heap.objs.size m := cL ▸ (hn : s6.heap.Ns ce.locals m)
      have I7 : Inv X pins σ H5 s6 := I3.call' (ch := fp) I6.os I6.base I6.hok I6.bare fun b hb => ⟨(f3 b hb).1.2.2.2.1, (f3 b hb).1.2.1, (f3 b hb).1.2.2.2.2.1, (f3 b hb).1.2.2.2.2.2⟩
      exact hRR D s3.heap.objs.size s6 m H5 I7 qq hn (I3.fpOk (Nat.le_refl _) nC)
    · refine thnF (T.item (X.blk s3 H3 scope ce fp) rfl rfl rfl hc i [] s5 _ H5 (fun _ _ => False) I5 (own_ I5 n5) st5 go) fun r s6 ⟨u, hr, h6⟩ => ?_
      subst hr
      refine thnF h6 fun _ s7 ⟨x, H7, I7, r7, y7, st7, n7⟩ => ?_
      have Ip := I7.pinned (own_ I7 n7) (T.obj _ _ st7)
      refine thnF (pg.run _ s7 _ H7 x u _ Ip r7 (step x H7 y7)) fun _ s8 ⟨σ8, H8, I8, hw8, q8⟩ => ?_
      refine thnF (pt.run _ s8 σ8 H8 _ I8 q8) fun b s9 ⟨H9, I9, q9⟩ => ?_
      have fin : ∀ {s' : Shared} {H' : Hp}, Inv (X.blk s3 H3 scope ce fp) ([] ++ pinsAt fp s7.heap) σ8 H' s' → Nx H' → ∃ m, m < n ∧ ∃ i H', Inv (X.blk s3 H3 scope ce fp) [] (wipe σ (own.map (·.2))) H' s' ∧ tn i s'.heap ∧ (∀ b ∈ fp, H' b = none) ∧ W i m H' := fun {s' H'} I' nx => by
        obtain ⟨m', hm, w'⟩ := hNx H' nx
        have pin' : ∀ b ∈ fp, ∀ o, s7.heap.get? b = some o → s'.heap.get? b = some o ∧ H' b = none := fun b hb o e => by
          obtain ⟨z1, z2, _⟩ := I'.pin (b, o) (List.mem_append_right _ (List.mem_append_right _ (mem_pinsAt hb e)))
          exact ⟨z1, z2⟩
        refine ⟨m', hm, i + 1, H', (I'.unpinned (pins := [])).weak (by rw [← hw8, wipe_length]) (fun j v e => (wipe_some (hw8 ▸ e)).1), T.keep _ _ _ st7 fun b hb o e => (pin' b hb o e).1, fun b hb => ?_, w'⟩
        obtain ⟨o, e, _⟩ := T.obj _ _ st7 b hb
        exact (pin' b hb o e).2
      cases b with
      | false => exact fin I9 q9
      | true =>
        refine thnF (pk.run _ s9 σ8 H9 _ I9 q9) fun z s10 ⟨yk, H10, I10, r10, q10⟩ => ?_
        refine thnF (pe.run _ s10 σ8 H10 _ I10 q10) fun z2 s11 ⟨yv, H11, I11, r11, H12, hp, nx⟩ => ?_
        exact kd.put (X := X.blk s3 H3 scope ce fp) rfl rfl rfl hu I11 hp r10 r11 fun s12 I12 => fin I12 nx
  exact codeAny_compStart_dict run (T.self X.A 0 _ _ _ st4 run)

theorem ps_setDg {i : Nat} {y : Str} {py spos : Pos} (hu : X.A.units < cLine) (hc : X.calm = true) (hN : X.N.Nodup) (hy : X.N[i]? = some y) (hyl : X.env.scope.names.lookup y = some .local)
    (hsw : swapsWith (.DictComp kx vx [⟨tg, iter, ifs, 0⟩] scope pos) (some (.Name y py)) spos.line X.env = pure true) (hi : PI X tg iter wi) (ok : BlkOk X.N X.env.scope scope own)
    (hg : ∀ s H C cl fp, PG (BX X s H scope C cl fp) tg g) (ht : ∀ s H C cl fp, PTs (BX X s H scope C cl fp) ifs tt) (hk : ∀ s H C cl fp, PE (BX X s H scope C cl fp) kx tk) (he : ∀ s H C cl fp, PE (BX X s H scope C cl fp) vx tv)
    (hs : ∀ x, foldedSetIterable iter X.env x = pure x := by intro _; rfl) :
    PS X (.Assign [.Name y py] (.DictComp kx vx [⟨tg, iter, ifs, 0⟩] scope pos) spos) (tAsg (tDg kd wi g tt tk tv (own.map (·.2))) (gName i)) := by
  refine ⟨fun pins s σ H D I h => ?_⟩
  rw [exec_Assign_Name_used _ _ _ _ hsw]
  refine wpAny_bind (wpAny_standAt (wpAny_bind ?_))
  show wpAny _ X.A (do let _ ← comprehension (.DictComp kx vx [⟨tg, iter, ifs, 0⟩] scope pos) scope X.env (firstIterPos [⟨tg, iter, ifs, 0⟩] pos) newDict false (eval iter X.env) (some (assign (.Name y py) X.env))) _ _ s
  have h : tDg kd wi g tt tk tv (own.map (·.2)) σ H (fun x H1 => gName i x σ H1 D.nx) := h
  refine wpAny_bind (thn (dg_core kd (Qf := fun _ s' => SP X pins D .next s') hu hc hN I hi ok hg ht hk he hs h fun L C s' m H' I' q hn f => ?_) fun _ s' hq => wpAny_pure (wpAny_pure hq))
  show wpAny _ _ (assign (.Name y py) X.env (.ref L)) _ _ _
  refine wpAny_assign_Name (store_ok2 (v := V.ref L) I' hN hy (.inl hyl) rfl (fun s2 I2 ⟨a, sb, ha⟩ => ?_) (.inr hyl))
  obtain ⟨f0, f1, f2, f3, f4, f5⟩ := f
  have haC : C ≠ a := by
    rcases ha with z | z
    · rw [z]; exact f1
    · exact fun e => f4 y a z e.symm
  refine ⟨m, hn.sameBut sb haC, fun h3 sb3 => ?_⟩
  exact ⟨_, H', I2.turned (t' := s2.toks) (fun b o hb e => (sb3.2 b hb).trans e) f0 f1 f3 f4 f5, q⟩
theorem sw_trueD {gs : List Comprehension} {py : Pos} {y : Str} {l : Nat} {env : Env} (hk : env.scope.kind = .function) (hy : env.scope.names.lookup y = some .local) (hl : (py.line == pos.line) = true)
    (ha : (scope.names.any fun (n, k) => n == y && (k == .local || k == .cell)) = false) : swapsWith (.DictComp kx vx gs scope pos) (some (.Name y py)) l env = pure true := by
  have ky : env.kindOf y = some .local := hy
  have hb : env.blockKind = .function := by unfold Env.blockKind; rw [hk]; rfl
  unfold swapsWith
  simp only [hb, ky, ha, Expr.pos, hl]
  rfl
end
end DG

set_option Elab.async false
set_option linter.all false
set_option maxRecDepth 100000
set_option maxHeartbeats 2000000
/-! o[-1] += e over an owned list; x += e; dict comprehensions and lists over two targets -/
namespace DL
open PySem PySem.Spec PyProof.Rows L2 ND DG
section
variable {X : Cx} {O : Own} {P : W → Own → Prop} {w : W}
theorem b_iadd {i j : Int} (h : P (.d (.int (i + j))) O) : BinD X (inplaceOp .Add) (.d (.int i)) (.d (.int j)) O P := b_I0 iop_add (fun _ => .int _) h
theorem b_iaddS {x y : Str} (hl : x.length + y.length ≤ sizeLine) (h : P (.d (.str (x ++ y))) O) : BinD X (inplaceOp .Add) (.d (.str x)) (.d (.str y)) O P :=
  bind_of iop_add_str fun v1 v2 Hr H Q hS h1 h2 hQ => by
    cases h1
    cases h2
    exact ⟨x, y, rfl, rfl, hl, hQ _ _ (po_here h hS (.str _))⟩
end
theorem get_listN {X : Cx} : PGet X (fun x y H Q => ∃ p xs i v, x = .ref p ∧ y = .int i ∧ i < 0 ∧ SqL X.K H p xs ∧ atI xs i = some v ∧ Q v H) := by
  intro pins s σ H x y v u Q I rx ry h
  obtain ⟨p, xs, i, z, rfl, rfl, h0, hq, he, q⟩ := h
  cases rx
  obtain ⟨t, rfl⟩ := ry
  obtain ⟨its, r, pl, hz⟩ := I.list hq
  obtain ⟨j, h1, h2, h3, h4, h5⟩ := L2.atI_get he
  obtain ⟨w, ew, rw'⟩ := r.get h2
  have hl := r.length
  have hn := line63
  have fin : EP X pins σ Q w s := ⟨z, H, I, rw', q⟩
  have hj : (i + (its.toArray.size : Int)).toNat = j := by
    rw [seqIndex_neg (by omega) h4] at h1
    rw [List.size_toArray, ← hl]
    exact Option.some.inj h1
  exact wpAny_getItem_list_neg pl.isList (by omega) (by rw [List.size_toArray] <;> omega) (by omega) (by rw [hj]; simpa using ew) fin
section
variable {X : Cx} {τ : Tau} {O : Own} {D : DEn} {pos tpos : Pos} {o i e : Expr} {op : Operator}
theorem ds_augN (h : DE X τ O o fun wo O1 => DE X τ O1 i fun wi O2 => ∃ (p : Addr) (j : Nat) (ds : List PyData) (k : Int) (n : Nat) (d : PyData), wo = .r (.ref p) ∧ wi = .d (.int k) ∧ O2[j]? = some (p, .l ds) ∧ k < 0 ∧ ixN ds.length k = some n ∧ ds[n]? = some d ∧
      DE X τ O2 e fun we O3 => BinD X (inplaceOp op) (.d d) we O3 fun w4 O4 => ∃ (j4 : Nat) (ds4 : List PyData) (d4 : PyData) (n4 : Nat), w4 = .d d4 ∧ O4[j4]? = some (p, .l ds4) ∧ ixN ds4.length k = some n4 ∧ D.nx τ (O4.set j4 (p, .l (ds4.set n4 d4))))
    (ha : ∀ ov iv new, augStore i ov iv new = (do holding [new, ov, iv] (setItem ov iv new); release [new, ov, iv] []; pure .next) := by intros; rfl) : DS X τ O (.AugAssign (.Subscript o i tpos) op e pos) D := by
  refine ⟨?_⟩
  intro σ Hr H E hE hS hD pins s I
  refine (ps_augS (tip := BR X (inplaceOp op)) pe_te pe_te get_listN pe_te br_ok set_list ha).run pins s σ H E I ?_
  refine h σ Hr H _ hE hS fun v1 H1 ⟨w1, O1, Hr1, h1, e1, s1, k1⟩ => ?_
  refine h1 σ Hr1 H1 _ (hE.mono e1) s1 fun v2 H2 ⟨w2, O2, Hr2, ⟨p, j, ds, k, n, d, q1, q2, hj, hk, hn, hd, h2⟩, e2, s2, k2⟩ => ?_
  subst q1 q2
  cases k1
  cases k2
  obtain ⟨us, u1, u2⟩ := s2.cell hj
  obtain ⟨v3, g3, dv3⟩ := u2.get hd
  refine ⟨p, us, k, v3, rfl, rfl, hk, SqL.of u1, ?_, ?_⟩
  · unfold atI
    rw [u2.len, hn]
    exact g3
  refine h2 σ Hr2 H2 _ (hE.mono (e1.trans e2)) s2 fun v4 H4 ⟨w4, O4, Hr4, h4, e4, s4, k4⟩ => ?_
  refine h4 v3 v4 Hr4 H4 _ s4 (dv_mono e4 dv3) k4 fun v5 H5 ⟨w5, O5, Hr5, ⟨j4, ds4, d4, n4, q3, hj4, hn4, hx⟩, e5, s5, k5⟩ => ?_
  subst q3
  obtain ⟨us4, u3, u4⟩ := s5.cell hj4
  exact ⟨p, us4, k, n4, rfl, rfl, u3, by rw [u4.len]; exact hn4, hD.nx _ _ ⟨_, _, Hr5, hx, ((e1.trans e2).trans e4).trans e5, s5.put hj4 ⟨_, upd_same, u4.set n4 k5⟩, hE.mono (((e1.trans e2).trans e4).trans e5)⟩⟩
end
section
variable {X : Cx} {τ : Tau} {O : Own} {P : W → Own → Prop} {D : DEn} {kx vx t iter : Expr} {ifs : List Expr} {scope : Scope} {pos : Pos} {g : TG}
theorem de_nc2 {y y2 : Str} {tp tp2 pos2 : Pos} {kk : Nat} (i j : Nat) (hN : X.N.Nodup) (hu : X.A.units < cLine) (ok : BlkOk X.N X.env.scope scope [(y, i), (y2, j)])
    (h : IterD X (.Tuple [.Name y tp, .Name y2 tp2] kk pos2) iter τ O fun ds O1 => NcD X τ O1 kx vx ifs scope [i, j] (gN2 X.K i j) (fun p acc O2 => P (.r (.ref p)) ((p, .x (NXc X.prog X.w acc)) :: O2)) ds)
    (hg : ∀ (s : Shared) (H : Hp) (C : Addr) (cl : List (Str × Addr)) (fp : List Addr), PG (blk X scope s H C cl fp) (.Tuple [.Name y tp, .Name y2 tp2] kk pos2) (gN2 X.K i j) := by exact fun _ _ _ _ _ => pg_tup rfl (pgs_cons (pg_name (by assumption) rfl (by first | exact Or.inl rfl | exact Or.inr rfl)) (pgs_cons (pg_name (by assumption) rfl (by first | exact Or.inl rfl | exact Or.inr rfl)) pgs_nil))) (hc : X.calm = true := by rfl) (hs : ∀ x, foldedSetIterable iter X.env x = pure x := by intro _; rfl) :
    DE X τ O (.DictComp kx vx [⟨.Tuple [.Name y tp, .Name y2 tp2] kk pos2, iter, ifs, 0⟩] scope pos) P := de_ncO [(y, i), (y2, j)] (gN2 X.K i j) hN hu ok hg h hc hs

theorem nc_data {vs : List Nat} {PL : Addr → List (NKey × W) → Own → Prop} (h : IterD X t iter τ O fun ds O1 => NcD X τ O1 kx vx ifs scope vs g PL ds) {σ : L2.St} {Hr H : Hp} {Q : VK} (hE : En X.K Hr σ τ) (hS : Sep X.K Hr O H)
    (hQ : ∀ v H', PO X.K Hr (fun w O' => ∃ p acc O2, w = .r (.ref p) ∧ O' = (p, .x (NXc X.prog X.w acc)) :: O2 ∧ PL p acc O2) v H' → Q v H') :
    DG.tDg (ndK X.prog X.w X.K) (ti X t iter) g (tIfs X scope ifs) (tElt X scope kx) (tElt X scope vx) vs σ H Q := by
  refine h σ Hr H _ hE hS fun J H1 ds O1 Hr1 ⟨kf, vf, kp, hz, hstep, hend⟩ e1 s1 ok => ?_
  intro Dl hD
  refine dg_it (ndK X.prog X.w X.K) ok (g := g) (vs := vs) (σ := σ) (tt := tIfs X scope ifs) (tk := tElt X scope kx) (tv := tElt X scope vx) (Qd := fun H' => Q (.ref Dl) H') (fun i H' => ∃ (Hr' : Hp), Same Hr1 Hr' ∧ Sep X.K Hr' ((Dl, .x (NXc X.prog X.w ((ds.take i).foldl (fun acc d => if kp d = true then nput acc (kf d) (.d (vf d)) else acc) []))) :: O1) H') ⟨Hr1, Same.refl _, s1.newOwn (c := .x (NXc X.prog X.w [])) hD ⟨[], upd_same, (fun r hr => nomatch hr), .nil⟩⟩ (fun i H' _ ⟨Hr', e, s'⟩ => fun a o q => s'.ex a o (e a o q)) ?_ ?_
  · intro i x H2 H3 hi ⟨Hr', e, s'⟩ y
    obtain ⟨d, Hr2, hd, e2, s2, kd⟩ := y.sep e s'
    obtain ⟨τ2, htg, hb⟩ := hstep i d hd
    have e3 : Same Hr Hr2 := (e1.trans e).trans e2
    refine htg x (wipe σ vs) Hr2 H3 _ ((hE.mono e3).wiped vs) s2.ex kd ?_
    intro σ' hE' hw
    refine ⟨hw σ rfl, ?_⟩
    have eN : (ds.take (i + 1)).foldl (fun acc d => if kp d = true then nput acc (kf d) (.d (vf d)) else acc) [] = if kp d = true then nput ((ds.take i).foldl (fun acc d => if kp d = true then nput acc (kf d) (.d (vf d)) else acc) []) (kf d) (.d (vf d)) else (ds.take i).foldl (fun acc d => if kp d = true then nput acc (kf d) (.d (vf d)) else acc) [] := by
      rw [List.take_succ, hd, List.foldl_append]
      rfl
    have hl := nfold_len kf vf kp (ds.take i) []
    rw [eN]
    generalize (ds.take i).foldl (fun acc d => if kp d = true then nput acc (kf d) (.d (vf d)) else acc) [] = acc at s2 hl ⊢
    intro s0 H0 C cl fp
    refine (hb (Dl, .x (NXc X.prog X.w acc)) s0 H0 C cl fp).1 σ' Hr2 H3 _ hE' s2 fun k H4 ⟨O4, Hr4, ⟨hk, p4⟩, e4, s4⟩ => ?_
    subst p4
    cases k with
    | true =>
      rw [if_pos rfl]
      rw [if_pos hk.symm]
      intro s0 H0 C cl fp
      obtain ⟨m1, m2⟩ := (hb (Dl, .x (NXc X.prog X.w acc)) s0 H0 C cl fp).2 hk.symm
      refine m1 σ' Hr4 H4 _ (hE'.mono e4) s4 fun y H5 ⟨w, O5, Hr5, ⟨hw, ho⟩, e5, s5, k5⟩ => ?_
      subst hw ho
      intro s0 H0 C cl fp
      obtain ⟨m1, m2⟩ := (hb (Dl, .x (NXc X.prog X.w acc)) s0 H0 C cl fp).2 hk.symm
      refine m2 σ' Hr5 H5 _ (hE'.mono (e4.trans e5)) s5 fun z H6 ⟨w, O6, Hr6, ⟨hw, ho⟩, e6, s6, k6⟩ => ?_
      subst hw ho
      obtain ⟨rs, u1, u2, u3⟩ := s6.cell (j := 0) rfl
      obtain ⟨q, g1, g2, g3⟩ := nkD_v (k5.mono e6)
      have hlen : rs.length < sizeLine := by
        rw [u3.len]
        refine Nat.lt_of_le_of_lt hl (Nat.lt_of_le_of_lt ?_ hz)
        simp [List.length_take]
        omega
      rw [← g2]
      refine ⟨_, ⟨rs, q, u1, rowsOk_mono s6.ex u2, g1, rowOk_mono s6.ex g3, hlen, rfl⟩, Hr6, (((e.trans e2).trans e4).trans e5).trans e6, s6.put (j := 0) rfl (c' := .x (NXc X.prog X.w _)) ⟨_, upd_same, fun r hr => ?_, u3.put k6⟩⟩
      unfold putN at hr
      split at hr
      · obtain ⟨r', hr', rfl⟩ := List.mem_map.mp hr
        unfold putN1
        split <;> exact u2 r' hr'
      · rcases List.mem_append.mp hr with hr | hr
        · exact u2 r hr
        · rw [List.mem_singleton.mp hr]
          exact g3
    | false =>
      rw [if_neg Bool.false_ne_true, if_neg (by rw [← hk]; exact Bool.false_ne_true)]
      exact ⟨Hr4, (e.trans e2).trans e4, s4⟩
  · intro H' ⟨Hr', e, s'⟩
    rw [List.take_length] at s'
    exact hQ _ _ ⟨_, _, Hr', ⟨Dl, _, _, rfl, rfl, hend Dl⟩, e1.trans e, s', rfl⟩

theorem ds_setNc (i : Nat) (own : List (Str × Nat)) (g : TG) {y : Str} {py spos : Pos} (hN : X.N.Nodup) (hu : X.A.units < cLine) (ok : BlkOk X.N X.env.scope scope own) (hg : ∀ (s : Shared) (H : Hp) (C : Addr) (cl : List (Str × Addr)) (fp : List Addr), PG (blk X scope s H C cl fp) t g)
    (h : IterD X t iter τ O fun ds O1 => NcD X τ O1 kx vx ifs scope (own.map (·.2)) g (fun p acc O2 => D.nx (τ.set i (some (.r (.ref p)))) ((p, .x (NXc X.prog X.w acc)) :: O2)) ds)
    (hsw : swapsWith (.DictComp kx vx [⟨t, iter, ifs, 0⟩] scope pos) (some (.Name y py)) spos.line X.env = pure true := by exact DG.sw_trueD rfl rfl rfl (by decide +kernel))
    (hc : X.calm = true := by rfl) (hs : ∀ x, foldedSetIterable iter X.env x = pure x := by intro _; rfl) (hy : X.N[i]? = some y := by rfl) (hyl : X.env.scope.names.lookup y = some .local := by rfl) :
    DS X τ O (.Assign [.Name y py] (.DictComp kx vx [⟨t, iter, ifs, 0⟩] scope pos) spos) D := by
  refine ⟨?_⟩
  intro σ Hr H E hE hS hD pins s I
  refine (DG.ps_setDg (ndK X.prog X.w X.K) (own := own) (tt := tIfs X scope ifs) (tk := tElt X scope kx) (tv := tElt X scope vx) hu hc hN hy hyl hsw pi_ti ok hg (fun s H C cl fp => ⟨fun pins s1 σ H1 Q I h => h s H C cl fp pins s1 I⟩) (fun s H C cl fp => ⟨fun pins s1 σ H1 Q I h => h s H C cl fp pins s1 I⟩) (fun s H C cl fp => ⟨fun pins s1 σ H1 Q I h => h s H C cl fp pins s1 I⟩) hs).run pins s σ H E I ?_
  exact nc_data h hE hS fun v H' ⟨w, O', Hr', ⟨p, acc, O2, hw, ho, hP⟩, e, s', k⟩ => hD.nx _ H' ⟨_, _, Hr', hP, e, by rw [← ho]; exact s', (hE.mono e).set i (v := v) (w := .r (.ref p)) (by rw [hw] at k; exact k)⟩
theorem ds_setNc2 {y y2 z : Str} {tp tp2 pos2 zp spos : Pos} {kk : Nat} (k i j : Nat) (hN : X.N.Nodup) (hu : X.A.units < cLine) (ok : BlkOk X.N X.env.scope scope [(y, i), (y2, j)])
    (h : IterD X (.Tuple [.Name y tp, .Name y2 tp2] kk pos2) iter τ O fun ds O1 => NcD X τ O1 kx vx ifs scope [i, j] (gN2 X.K i j) (fun p acc O2 => D.nx (τ.set k (some (.r (.ref p)))) ((p, .x (NXc X.prog X.w acc)) :: O2)) ds)
    (hg : ∀ (s : Shared) (H : Hp) (C : Addr) (cl : List (Str × Addr)) (fp : List Addr), PG (blk X scope s H C cl fp) (.Tuple [.Name y tp, .Name y2 tp2] kk pos2) (gN2 X.K i j) := by exact fun _ _ _ _ _ => pg_tup rfl (pgs_cons (pg_name (by assumption) rfl (by first | exact Or.inl rfl | exact Or.inr rfl)) (pgs_cons (pg_name (by assumption) rfl (by first | exact Or.inl rfl | exact Or.inr rfl)) pgs_nil)))
    (hsw : swapsWith (.DictComp kx vx [⟨.Tuple [.Name y tp, .Name y2 tp2] kk pos2, iter, ifs, 0⟩] scope pos) (some (.Name z zp)) spos.line X.env = pure true := by exact DG.sw_trueD rfl rfl rfl (by decide +kernel))
    (hc : X.calm = true := by rfl) (hs : ∀ x, foldedSetIterable iter X.env x = pure x := by intro _; rfl) (hy : X.N[k]? = some z := by rfl) (hyl : X.env.scope.names.lookup z = some .local := by rfl) :
    DS X τ O (.Assign [.Name z zp] (.DictComp kx vx [⟨.Tuple [.Name y tp, .Name y2 tp2] kk pos2, iter, ifs, 0⟩] scope pos) spos) D := ds_setNc k [(y, i), (y2, j)] (gN2 X.K i j) hN hu ok hg h hsw hc hs hy hyl
theorem ds_setNc1 {y z : Str} {tp zp spos : Pos} (k i : Nat) (hN : X.N.Nodup) (hu : X.A.units < cLine) (ok : BlkOk X.N X.env.scope scope [(y, i)])
    (h : IterD X (.Name y tp) iter τ O fun ds O1 => NcD X τ O1 kx vx ifs scope [i] (gName i) (fun p acc O2 => D.nx (τ.set k (some (.r (.ref p)))) ((p, .x (NXc X.prog X.w acc)) :: O2)) ds)
    (hg : ∀ (s : Shared) (H : Hp) (C : Addr) (cl : List (Str × Addr)) (fp : List Addr), PG (blk X scope s H C cl fp) (.Name y tp) (gName i) := by exact fun _ _ _ _ _ => pg_name (by assumption) rfl (by first | exact Or.inl rfl | exact Or.inr rfl))
    (hsw : swapsWith (.DictComp kx vx [⟨.Name y tp, iter, ifs, 0⟩] scope pos) (some (.Name z zp)) spos.line X.env = pure true := by exact DG.sw_trueD rfl rfl rfl (by decide +kernel))
    (hc : X.calm = true := by rfl) (hs : ∀ x, foldedSetIterable iter X.env x = pure x := by intro _; rfl) (hy : X.N[k]? = some z := by rfl) (hyl : X.env.scope.names.lookup z = some .local := by rfl) :
    DS X τ O (.Assign [.Name z zp] (.DictComp kx vx [⟨.Name y tp, iter, ifs, 0⟩] scope pos) spos) D := ds_setNc k [(y, i)] (gName i) hN hu ok hg h hsw hc hs hy hyl
end
end DL

set_option Elab.async false
set_option linter.all false
set_option maxRecDepth 100000
set_option maxHeartbeats 2000000
/-! dicts that are owned: shown as {..}, walked over, compared -/
namespace DL
open PySem PySem.Spec PyProof.Rows L2
/-! ### d == e, d != e, alike -/
def EqDat (K : PySem.W.Frag) (H : Hp) (x y : V) : Prop := ∃ d, Dp K H x d ∧ Dp K H y d ∧ SeqAt.shaped d = true
def rEqKD (K : PySem.W.Frag) (r : Bool) : R2 := fun x y H Q => ∃ a b ks ls, x = .ref a ∧ y = .ref b ∧ H a = some (.dK ks) ∧ H b = some (.dK ls) ∧ ks.length = ls.length ∧ (∀ p ∈ ks, ∃ u, valV ls p.1 = some u ∧ EqDat K H p.2 u) ∧ Q (.bl r) H
section
variable {X : Cx} {pins : List (Addr × Obj)} {σ : L2.St} {H : Hp} {s : Shared}
theorem eqDat_run (I : Inv X pins σ H s) {A : Around} (hu : A.units + 64 < cLine) (x y : V) (v u : Value) (h : EqDat X.K H x y) (rx : RelV x v) (ry : RelV y u) : SeqAt.EqP X.prog X.w A s v u true := by
  obtain ⟨d, h1, h2, hs⟩ := h
  obtain ⟨as, r1⟩ := Dp.reads I d x v h1 rx
  obtain ⟨bs, r2⟩ := Dp.reads I d y u h2 ry
  have := (SeqAt.eqAt_reads d d A s v u as bs r1 r2 (SeqAt.canLay_of_shaped hs) (SeqAt.canLay_of_shaped hs) (SeqAt.room_of_shaped hs hu)).eqP (prog := X.prog) (w := X.w)
  rwa [eqv_self hs] at this
end
section
variable {X : Cx}
theorem op_eqKD (hu : X.A.units + 66 < cLine) : OpR X (compareOp .Eq) (rEqKD X.K true) := by
  intro pins s σ H x y v u Q I rx ry h
  obtain ⟨a, b, ks, ls, rfl, rfl, ha, hb, hl, hp, q⟩ := h
  cases (show v = Value.ref a from rx)
  cases (show u = Value.ref b from ry)
  obtain ⟨_, ya, va, ra, da⟩ := (show ObjOk X.prog X.w H s.heap a (.dK ks) from I.hok a _ ha)
  obtain ⟨_, yb, vb, rb, db⟩ := (show ObjOk X.prog X.w H s.heap b (.dK ls) from I.hok b _ hb)
  refine PySem.W.rcP_dicts (knd := mixKind X.prog X.w) (r := true) ya yb da db (by omega) (fun _ => hits_run (fun x y v u h r1 r2 => eqDat_run I (A := X.A.in1) (by show X.A.units + 1 + 64 < cLine; omega) x y v u h r1 r2) rb ra hp) _ _ ?_
  have e : va.length = vb.length := by rw [← ra.length, ← rb.length]; exact hl
  rw [show (va.length == vb.length && true) = true from by rw [e]; simp]
  exact ⟨.bl true, H, I, rfl, q⟩
theorem op_neKD (hu : X.A.units + 66 < cLine) : OpR X (compareOp .NotEq) (rEqKD X.K false) := by
  intro pins s σ H x y v u Q I rx ry h
  obtain ⟨a, b, ks, ls, rfl, rfl, ha, hb, hl, hp, q⟩ := h
  cases (show v = Value.ref a from rx)
  cases (show u = Value.ref b from ry)
  obtain ⟨_, ya, va, ra, da⟩ := (show ObjOk X.prog X.w H s.heap a (.dK ks) from I.hok a _ ha)
  obtain ⟨_, yb, vb, rb, db⟩ := (show ObjOk X.prog X.w H s.heap b (.dK ls) from I.hok b _ hb)
  have e : va.length = vb.length := by rw [← ra.length, ← rb.length]; exact hl
  refine wpAny_richCompare_same_room (op := .NotEq) da.typeIs db.typeIs PySem.F.slot_dict_ne (wpAny_call_entry PySem.F.slot_dict_ne da.typeIs PySem.F.entry_dict_ne ?_ (PySem.F.args_dict_ne_2 _ _)) (by omega)
  show wpAny _ _ (Builtin.Dict.dictSlotArgs "__ne__" ⟨[.ref a, .ref b], []⟩ >>= _) _ _ s
  refine wpAny_bind ?_
  unfold Builtin.Dict.dictSlotArgs
  refine wpAny_bind (wpAny_notOrdered_dict da.typeIs ?_)
  show wpAny _ _ (pure (Value.ref a, Value.ref b)) _ _ s
  refine wpAny_pure ?_
  refine wpAny_bind (wpAny_isInstance (T := "dict") db.typeIs PySem.F.sub_dict_dict ?_)
  simp only [Bool.not_true, Bool.false_eq_true, if_false]
  refine wpAny_bind (wpAny_pure (wpAny_bind (wpAny_pure ?_)))
  refine wpAny_bind (PySem.W.samePairsP (knd := mixKind X.prog X.w) (r := true) ya yb da db (fun _ => hits_run (fun x y v u h r1 r2 => eqDat_run I (A := X.A.in1) (by show X.A.units + 1 + 64 < cLine; omega) x y v u h r1 r2) rb ra hp) ?_)
  refine wpAny_pure ⟨_, rfl, ?_, ?_⟩
  · exact fun x => nomatch x
  · refine ⟨.bl false, H, I, ?_, q⟩
    rw [e]
    simp
    rfl
end
theorem kd_at {K : PySem.W.Frag} {Hr : Hp} {vs : List (Key × V)} {kvs : List (Key × PyData)} (h : KD K Hr vs kvs) : ∀ {i : Nat} {p : Key × V}, vs[i]? = some p → ∃ d, kvs[i]? = some (p.1, d) ∧ Dv K Hr p.2 d := by
  intro i p hp
  induction h generalizing i with
  | nil => simp at hp
  | @cons a b as bs h t ih =>
    cases i with
    | zero =>
      simp at hp
      subst hp
      obtain ⟨k, d⟩ := b
      obtain ⟨e, g⟩ := h
      have e : a.1 = k := e
      exact ⟨d, by simp [e], g⟩
    | succ i =>
      obtain ⟨d, h1, h3⟩ := ih (by simpa using hp)
      exact ⟨d, by simpa using h1, h3⟩
theorem kd_find {K : PySem.W.Frag} {Hr : Hp} {vs : List (Key × V)} {kvs : List (Key × PyData)} (nd : (kvs.map (·.1)).Nodup) (h : KD K Hr vs kvs) : ∀ {i : Nat} {p : Key × V}, vs[i]? = some p → ∃ d, kvs[i]? = some (p.1, d) ∧ valD kvs p.1 = some d ∧ Dv K Hr p.2 d := by
  intro i p hp
  induction h generalizing i with
  | nil => simp at hp
  | @cons a b as bs h t ih =>
    rw [List.map_cons, List.nodup_cons] at nd
    cases i with
    | zero =>
      simp at hp
      subst hp
      obtain ⟨k, d⟩ := b
      obtain ⟨e, g⟩ := h
      have e : a.1 = k := e
      exact ⟨d, by simp [e], by rw [e]; exact valD_pos rfl, g⟩
    | succ i =>
      obtain ⟨d, h1, h2, h3⟩ := ih nd.2 (by simpa using hp)
      refine ⟨d, by simpa using h1, ?_, h3⟩
      have : ¬ b.1 = p.1 := fun e => nd.1 (by rw [e]; exact List.mem_map.mpr ⟨_, List.mem_of_getElem? h1, rfl⟩)
      rw [valD_neg this]
      exact h2
section
variable {X : Cx} {O : Own} {P : W → Own → Prop} {w1 w2 : W}
theorem eqK_args {v1 v2 : V} {Hr H : Hp} {kvs : List (Key × PyData)} (r1 : DkAt O w1 kvs) (r2 : DkAt O w2 kvs) (nd : (kvs.map (·.1)).Nodup) (hs : ∀ q ∈ kvs, SeqAt.shaped q.2 = true) (hS : Sep X.K Hr O H) (h1 : WOk X.K Hr v1 w1) (h2 : WOk X.K Hr v2 w2) :
    ∃ a b ks ls, v1 = .ref a ∧ v2 = .ref b ∧ H a = some (.dK ks) ∧ H b = some (.dK ls) ∧ ks.length = ls.length ∧ ∀ p ∈ ks, ∃ u, valV ls p.1 = some u ∧ EqDat X.K H p.2 u := by
  obtain ⟨a, ks, rfl, e1, k1⟩ := r1.at hS h1
  obtain ⟨b, ls, rfl, e2, k2⟩ := r2.at hS h2
  refine ⟨a, b, ks, ls, rfl, rfl, e1, e2, by rw [k1.len, k2.len], fun p hp => ?_⟩
  obtain ⟨i, hi⟩ := List.mem_iff_getElem?.mp hp
  obtain ⟨d, g1, g2, g3⟩ := kd_find nd k1 hi
  rcases k2.val p.1 with ⟨_, z⟩ | ⟨u, d', z1, z2, z3⟩
  · rw [g2] at z; cases z
  · rw [g2] at z2
    cases z2
    exact ⟨u, z1, d, (dv_mono hS.ex g3).dp, (dv_mono hS.ex z3).dp, hs _ (List.mem_of_getElem? g1)⟩
theorem b_eqK {kvs : List (Key × PyData)} (hu : X.A.units + 66 < cLine) (r1 : DkAt O w1 kvs) (r2 : DkAt O w2 kvs) (nd : (kvs.map (·.1)).Nodup) (hs : ∀ q ∈ kvs, SeqAt.shaped q.2 = true) (h : P (.d (.bool true)) O) : BinD X (compareOp .Eq) w1 w2 O P :=
  bind_of (op_eqKD hu) fun v1 v2 Hr H Q hS h1 h2 hQ => by
    obtain ⟨a, b, ks, ls, q⟩ := eqK_args r1 r2 nd hs hS h1 h2
    exact ⟨a, b, ks, ls, q.1, q.2.1, q.2.2.1, q.2.2.2.1, q.2.2.2.2.1, q.2.2.2.2.2, hQ _ _ (po_here h hS (.bl _))⟩
theorem b_neK {kvs : List (Key × PyData)} (hu : X.A.units + 66 < cLine) (r1 : DkAt O w1 kvs) (r2 : DkAt O w2 kvs) (nd : (kvs.map (·.1)).Nodup) (hs : ∀ q ∈ kvs, SeqAt.shaped q.2 = true) (h : P (.d (.bool false)) O) : BinD X (compareOp .NotEq) w1 w2 O P :=
  bind_of (op_neKD hu) fun v1 v2 Hr H Q hS h1 h2 hQ => by
    obtain ⟨a, b, ks, ls, q⟩ := eqK_args r1 r2 nd hs hS h1 h2
    exact ⟨a, b, ks, ls, q.1, q.2.1, q.2.2.1, q.2.2.2.1, q.2.2.2.2.1, q.2.2.2.2.2, hQ _ _ (po_here h hS (.bl _))⟩
end
/-! ### a walk over the keys -/
/-- a dict that is locked -/
def FZ (od : Obj) (vs : List (Key × V)) (kvs : List (Key × PyData)) : XC := ⟨fun K Hr H p => H p = some (.frz od (.dK vs)) ∧ KD K Hr vs kvs, fun e h => ⟨h.1, h.2.mono e⟩, fun h => ⟨_, h.1⟩, fun h e => ⟨e.trans h.1, h.2⟩⟩
section
variable {X : Cx} {τ : Tau} {O : Own} {P : W → Own → Prop} {D : DEn} {t iter a b : Expr} {body : List Stmt} {pos : Pos}
/-- an item of a locked dict -/
theorem de_fget (hu : X.A.units + 1 < cLine) (h : DE X τ O a fun w1 O1 => DE X τ O1 b fun w2 O2 => ∃ (p : Addr) (j : Nat) (od : Obj) (vs : List (Key × V)) (kvs : List (Key × PyData)) (k : Key) (d : PyData), w1 = .r (.ref p) ∧ O2[j]? = some (p, .x (FZ od vs kvs)) ∧ w2 = .d (keyD k) ∧ valD kvs k = some d ∧ P (.d d) O2) (hs : NoSl b := by exact fun _ _ => rfl) : DE X τ O (.Subscript a b pos) P := by
  refine ⟨?_⟩
  intro σ Hr H Q hE hS hQ pins s I
  refine (pe_dget hu pe_te pe_te hs).run pins s σ H Q I ?_
  refine h σ Hr H _ hE hS fun x H1 ⟨w1, O1, Hr1, h1, e1, s1, k1⟩ => ?_
  refine h1 σ Hr1 H1 _ (hE.mono e1) s1 fun y H2 ⟨w2, O2, Hr2, ⟨p, j, od, vs, kvs, k, d, q0, hj, hw, hv, hp⟩, e2, s2, k2⟩ => ?_
  subst q0 hw
  cases k1
  obtain ⟨q1, kd⟩ := (show H2 p = some (.frz od (.dK vs)) ∧ KD X.K Hr2 vs kvs from s2.cell hj)
  obtain rfl := keyD_v k2
  rcases kd.val k with ⟨_, z⟩ | ⟨v, d', z1, z2, z3⟩
  · rw [hv] at z; cases z
  · rw [hv] at z2
    cases z2
    exact ⟨p, v, rfl, .inl ⟨vs, k, .inr ⟨od, q1⟩, rfl, z1.symm⟩, hQ _ _ ⟨.d d, O2, Hr2, hp, e1.trans e2, s2, z3⟩⟩
theorem dv_key {K : PySem.W.Frag} {H : Hp} : ∀ k : Key, Dv K H (kV k) (keyD k)
  | .inl i => .int i
  | .inr z => .str z
theorem ds_forK {p : Addr} (j : Nat) {kvs : List (Key × PyData)} (hj : O[j]? = some (p, .k kvs)) (h : ∀ (od : Obj) (vs : List (Key × V)), DE X τ (O.set j (p, .x (FZ od vs kvs))) iter fun w O1 => w = .r (.ref p) ∧ ∃ Iv : Nat → Tau → Own → Prop, Iv 0 τ O1 ∧ (∀ i τ' O', Iv i τ' O' → ∃ j : Nat, O'[j]? = some (p, .x (FZ od vs kvs))) ∧
      (∀ (i : Nat) (k : Key) (d : PyData) (τ' : Tau) (O' : Own), kvs[i]? = some (k, d) → Iv i τ' O' → DTg X τ' O' t (.d (keyD k)) fun τ2 O2 => DSs X τ2 O2 body { nx := Iv (i + 1), ct := Iv (i + 1), bk := fun _ _ => False, rt := fun _ _ => False }) ∧
      (∀ τ' O', Iv kvs.length τ' O' → ∃ j : Nat, O'[j]? = some (p, .x (FZ od vs kvs)) ∧ D.nx τ' (O'.set j (p, .k kvs))))
    (hp : PassesOwn (model X.prog X.w) X.A X.env X.xe := by exact PassesOwn.never) (hc : X.calm = true := by rfl) (hs : ∀ x, foldedSetIterable iter X.env x = pure x := by intro _; rfl) : DS X τ O (.For t iter body [] pos) D := by
  refine ⟨?_⟩
  intro σ Hr H E hE hS hD pins s I
  refine (ps_lock (ps_for hp hc (pi_keys pe_te) pg_tg pss_tss hs)).run pins s σ H E I ?_
  obtain ⟨vs, v1, v2⟩ := hS.cell hj
  refine ⟨p, .dK vs, v1, trivial, fun od => ?_⟩
  have hS2 : Sep X.K Hr (O.set j (p, .x (FZ od vs kvs))) (upd H p (.frz od (.dK vs))) := hS.put hj (c' := .x (FZ od vs kvs)) ⟨upd_same, v2⟩
  refine h od vs σ Hr _ _ hE hS2 fun v H1 ⟨w, O1, Hr1, ⟨hw, Iv, h0, hcell, hstep, hend⟩, e1, s1, k1⟩ => ?_
  subst hw
  have k1' : v = .ref p := k1
  subst k1'
  obtain ⟨j1, hj1⟩ := hcell 0 τ O1 h0
  refine ⟨p, od, rfl, .inl ⟨vs, (show H1 p = some (.frz od (.dK vs)) ∧ KD X.K Hr1 vs kvs from s1.cell hj1).1, ?_⟩⟩
  have hlen : vs.length = kvs.length := v2.len
  refine for_it (J := Itk p od vs) (n := vs.length) (G := fun H => H p = some (.frz od (.dK vs))) (Y := fun i H v H' => H' = H ∧ ∃ k u, vs[i]? = some (k, u) ∧ v = kV k)
    ⟨fun i H hi q => ⟨q, hi⟩, fun H q => ⟨q, Nat.le_refl _⟩, fun _ _ _ _ _ q y => y⟩
    (fun i σ' H' => NO X.K Hr1 (Iv i) σ' H') ⟨τ, O1, Hr1, h0, Same.refl _, s1, hE.mono e1⟩ ?_ ?_ ?_
  · intro i σ' H' _ ⟨τ', O', Hr', p', e, s', _⟩
    obtain ⟨j, hj⟩ := hcell i τ' O' p'
    exact (show H' p = some (.frz od (.dK vs)) ∧ KD X.K Hr' vs kvs from s'.cell hj).1
  · intro i x σ' H' H2 hi ⟨τ', O', Hr', p', e, s', k⟩ ⟨y1, k0, u0, y2, y3⟩
    subst y1 y3
    obtain ⟨j, hj⟩ := hcell i τ' O' p'
    obtain ⟨q1, q2⟩ := (show H2 p = some (.frz od (.dK vs)) ∧ KD X.K Hr' vs kvs from s'.cell hj)
    obtain ⟨db, hb, _⟩ := kd_at q2 y2
    refine hstep i k0 db τ' O' hb p' (kV k0) σ' Hr' _ _ k s' (dv_key k0) fun σ3 H3 ⟨τ3, O3, Hr3, p3, e3, s3, k3⟩ => ?_
    refine p3 σ3 Hr3 H3 _ k3 s3 ⟨fun σ4 H4 q => no_to (e.trans e3) q, fun v H4 ⟨_, _, _, f, _⟩ => f.elim, fun σ4 H4 ⟨_, _, _, f, _⟩ => f.elim, fun σ4 H4 q => no_to (e.trans e3) q⟩
  · intro σ' H' ⟨τ', O', Hr', p', e, s', k⟩
    rw [hlen] at p'
    obtain ⟨j2, hj2, hn⟩ := hend τ' O' p'
    obtain ⟨q1, q2⟩ := (show H' p = some (.frz od (.dK vs)) ∧ KD X.K Hr' vs kvs from s'.cell hj2)
    exact ⟨q1, hD.nx _ _ ⟨τ', _, Hr', hn, e1.trans e, s'.put hj2 (c' := .k kvs) ⟨vs, upd_same, q2⟩, k⟩⟩
end
/-! ### {k: v, ..} -/
theorem putK_new {us : List (Key × V)} {k : Key} {v : V} (h : k ∉ us.map (·.1)) : putK us k v = us ++ [(k, v)] := by
  unfold putK
  rw [if_neg]
  intro q
  rw [List.any_eq_true] at q
  obtain ⟨x, hx, e⟩ := q
  exact h (List.mem_map.mpr ⟨x, hx, by simpa using e⟩)
theorem merge_new : ∀ (us acc : List (Key × V)), ((acc ++ us).map (·.1)).Nodup → mergeK acc us = acc ++ us := by
  intro us
  induction us with
  | nil => intro acc _; simp [mergeK]
  | cons u us ih =>
    intro acc nd
    have h1 : u.1 ∉ acc.map (·.1) := fun m => by
      rw [List.map_append, List.map_cons, List.nodup_append] at nd
      exact nd.2.2 u.1 m u.1 List.mem_cons_self rfl
    have := ih (acc ++ [u]) (by rw [List.append_assoc]; exact nd)
    unfold mergeK at this ⊢
    rw [List.foldl_cons, putK_new h1, this, List.append_assoc]
    rfl
theorem wps_data {K : PySem.W.Frag} {Hr : Hp} : ∀ {kvs : List (Key × PyData)} {ps : List (V × V)}, WPs K Hr ps (kvs.map fun q => (W.d (keyD q.1), W.d q.2)) → ∃ us : List (Key × V), ps = (us.map fun kv => (kV kv.1, kv.2)) ∧ us.map (·.1) = kvs.map (·.1) ∧ KD K Hr us kvs
  | [], _, h => by cases h; exact ⟨[], rfl, rfl, .nil⟩
  | q :: kvs, _, h => by
    cases h with
    | @cons v u _ _ _ _ a b c =>
      obtain ⟨us, e1, e2, e3⟩ := wps_data (kvs := kvs) c
      obtain rfl := keyD_v a
      exact ⟨(q.1, u) :: us, by rw [e1]; rfl, by rw [List.map_cons, List.map_cons, e2], .cons ⟨rfl, b⟩ e3⟩
section
variable {X : Cx} {τ : Tau} {O : Own} {P : W → Own → Prop} {pos : Pos}
theorem de_dispK {keys : List (Option Expr)} {values : List Expr}
    (h : ∀ p, DPs X τ ((p, .o (.dK [])) :: O) keys values fun ws O2 => ∃ (kvs : List (Key × PyData)) (j : Nat), ws = (kvs.map fun q => (W.d (keyD q.1), W.d q.2)) ∧ kvs.length ≤ 15 ∧ (kvs.map (·.1)).Nodup ∧ O2[j]? = some (p, .o (.dK [])) ∧ P (.r (.ref p)) (O2.set j (p, .k kvs)))
    (hall : keys.all (·.isSome) = true := by rfl) (hl : keys.length = values.length := by rfl) (h0 : keys ≠ [] := by exact nofun) (h15 : keys.length ≤ 15 := by decide) : DE X τ O (.Dict keys values pos) P := by
  refine ⟨?_⟩
  intro σ Hr H Q hE hS hQ pins s I
  refine (pe_disp (pps_trs keys values hall hl) hall hl h0 h15).run pins s σ H Q I ?_
  intro p hp
  refine dps_run keys values (h p) hE (hS.newOwn (c := .o (.dK [])) hp upd_same) fun ps H' ws O' Hr' ⟨kvs, j, hw, hz, nd, hj, hP⟩ e s' q => ?_
  subst hw
  obtain ⟨us, e1, e2, e3⟩ := wps_data q
  have u1 : H' p = some (.dK []) := s'.cell hj
  refine ⟨u1, us, e1, by rw [e3.len]; exact hz, hQ _ _ ⟨_, _, Hr', hP, e, ?_, rfl⟩⟩
  refine s'.put hj (c' := .k kvs) ⟨us, ?_, e3⟩
  rw [merge_new us [] (by rw [List.nil_append, e2]; exact nd)]
  exact upd_same
end
end DL
namespace DL
open PySem PySem.Spec PyProof.Rows L2
/-! ### lists of references -/
section
variable {X : Cx} {τ : Tau} {O : Own} {P : W → Own → Prop} {D : DEn} {t iter : Expr} {body : List Stmt} {pos : Pos}
theorem ds_forR (h : DE X τ O iter fun w O1 => ∃ (p : Addr) (us : List V), w = .r (.ref p) ∧ ∃ Iv : Nat → Tau → Own → Prop, Iv 0 τ O1 ∧ (∀ i τ' O', Iv i τ' O' → ∃ j : Nat, O'[j]? = some (p, Cell.o (.lst us))) ∧
      (∀ (i : Nat) (u : V) (τ' : Tau) (O' : Own), us[i]? = some u → Iv i τ' O' → DTg X τ' O' t (.r u) fun τ2 O2 => DSs X τ2 O2 body { nx := Iv (i + 1), ct := Iv (i + 1), bk := D.nx, rt := D.rt }) ∧ (∀ τ' O', Iv us.length τ' O' → D.nx τ' O'))
    (hp : PassesOwn (model X.prog X.w) X.A X.env X.xe := by exact PassesOwn.never) (hc : X.calm = true := by rfl) (hs : ∀ x, foldedSetIterable iter X.env x = pure x := by intro _; rfl) : DS X τ O (.For t iter body [] pos) D := by
  refine ⟨?_⟩
  intro σ Hr H E hE hS hD pins s I
  refine (ps_for hp hc (pi_list pe_te) pg_tg pss_tss hs).run pins s σ H E I ?_
  refine h σ Hr H _ hE hS fun v H1 ⟨w, O1, Hr1, ⟨p, us, hw, Iv, h0, hcell, hstep, hend⟩, e1, s1, k1⟩ => ?_
  subst hw
  have k1' : v = .ref p := k1
  subst k1'
  obtain ⟨j, hj⟩ := hcell 0 τ O1 h0
  have u1 : H1 p = some (.lst us) := s1.cell hj
  refine ⟨p, rfl, ⟨us, SqL.of u1⟩, ?_⟩
  refine for_it (J := Itl X.K p) (n := us.length) (G := fun H => ∃ xs, SqL X.K H p xs ∧ xs.length = us.length) (Y := fun i H v H' => H' = H ∧ ∀ xs, SqL X.K H p xs → xs[i]? = some v)
    ⟨fun i H hi ⟨xs, q, hl⟩ => ⟨xs, xs[i], q, by simp [hl, hi]⟩, fun H ⟨xs, q, hl⟩ => ⟨xs, q, by omega⟩, fun _ _ _ _ _ q y => ⟨y.1, y.2⟩⟩
    (fun i σ' H' => NO X.K Hr1 (Iv i) σ' H') ⟨τ, O1, Hr1, h0, Same.refl _, s1, hE.mono e1⟩ ?_ ?_ ?_
  · intro i σ' H' _ ⟨τ', O', Hr', p', e, s', _⟩
    obtain ⟨j, hj⟩ := hcell i τ' O' p'
    have u1 : H' p = some (.lst us) := s'.cell hj
    exact ⟨us, SqL.of u1, rfl⟩
  · intro i x σ' H' H2 hi ⟨τ', O', Hr', p', e, s', k⟩ ⟨y1, y2⟩
    subst y1
    obtain ⟨j, hj⟩ := hcell i τ' O' p'
    have u1 : H2 p = some (.lst us) := s'.cell hj
    have hx := y2 us (SqL.of u1)
    refine hstep i x τ' O' hx p' x σ' Hr' _ _ k s' rfl fun σ3 H3 ⟨τ3, O3, Hr3, p3, e3, s3, k3⟩ => ?_
    refine p3 σ3 Hr3 H3 _ k3 s3 ⟨fun σ4 H4 q => no_to (e.trans e3) q, fun v H4 q => hD.rt v H4 (po_to ((e1.trans e).trans e3) q), fun σ4 H4 q => hD.nx σ4 H4 (no_to ((e1.trans e).trans e3) q), fun σ4 H4 q => no_to (e.trans e3) q⟩
  · intro σ' H' ⟨τ', O', Hr', p', e, s', k⟩
    exact hD.nx _ _ ⟨τ', O', Hr', hend τ' O' p', e1.trans e, s', k⟩
theorem c_listR {p : Addr} (j : Nat) {us : List V} (hj : O[j]? = some (p, .o (.lst us))) (h : ∀ q, P (.r (.ref q)) ((q, .o (.lst us)) :: O)) : CallD X (.type "list") [.r (.ref p)] O P :=
  calld_of call_list_of fun vs Hr H Q hS h1 hQ => by
    cases h1 with
    | cons k1 k2 =>
      cases k2
      cases k1
      have u1 : H p = some (.lst us) := hS.cell hj
      exact ⟨_, _, rfl, .inl (SqL.of u1), fun q hq => hQ _ _ ⟨_, _, Hr, h q, Same.refl _, hS.newOwn hq (c := .o (.lst us)) upd_same, rfl⟩⟩
end
end DL
namespace DL
open PySem PySem.Spec PyProof.Rows L2
section
variable {X : Cx} {τ : Tau} {O : Own} {P : W → Own → Prop} {D : DEn} {elt t iter : Expr} {scope : Scope} {pos : Pos} {g : TG} {w1 : W}
theorem lcR_data {vs : List Nat} {PL : Addr → Own → Prop} (h : IterD X t iter τ O fun ds O1 => LcR X τ O1 elt scope vs g PL ds) {σ : L2.St} {Hr H : Hp} {Q : VK} (hE : En X.K Hr σ τ) (hS : Sep X.K Hr O H) (hQ : ∀ v H', PO X.K Hr (fun w O' => ∃ p, w = .r (.ref p) ∧ PL p O') v H' → Q v H') :
    tLc (ti X t iter) g (tIfs X scope []) (tElt X scope elt) vs σ H Q := by
  refine h σ Hr H _ hE hS fun J H1 ds O1 Hr1 hL e1 s1 ok => ?_
  intro Dl hD
  obtain ⟨Iv, h0, hstep, hend⟩ := (show LcR X τ O1 elt scope vs g (fun p O2 => PL p O2) ds from hL) Dl
  refine lc_it (g := g) (vs := vs) (σ := σ) (tt := tIfs X scope []) (te := tElt X scope elt) (Qd := fun H' => Q (.ref Dl) H') ok (fun i H' => ∃ (us : List V) (O' : Own) (Hr' : Hp), Iv i us O' ∧ Same Hr1 Hr' ∧ Sep X.K Hr' O' H') ⟨[], _, Hr1, h0, Same.refl _, s1.newOwn (c := .o (.lst [])) hD upd_same⟩ (fun i H' _ ⟨_, _, Hr', _, e, s'⟩ => fun a o q => s'.ex a o (e a o q)) ?_ ?_
  · intro i x H2 H3 hi ⟨us, O', Hr', hI, e, s'⟩ y
    obtain ⟨d, Hr2, hd, e2, s2, kd⟩ := y.sep e s'
    obtain ⟨-, τ2, htg, hb⟩ := hstep i d us O' hd hI
    have e3 : Same Hr Hr2 := (e1.trans e).trans e2
    refine htg x (wipe σ vs) Hr2 H3 _ ((hE.mono e3).wiped vs) s2.ex kd ?_
    intro σ' hE' hw
    refine ⟨hw σ rfl, ?_⟩
    intro s0 H0 C cl fp
    refine dts_nil (P := fun b O3 => b = true ∧ O3 = O') ⟨rfl, rfl⟩ σ' Hr2 H3 _ hE' s2 fun b H4 ⟨O4, Hr4, ⟨hb1, hb2⟩, e4, s4⟩ => ?_
    subst hb1 hb2
    rw [if_pos rfl]
    intro s0 H0 C cl fp
    refine hb s0 H0 C cl fp σ' Hr4 H4 _ (hE'.mono e4) s4 fun v H5 ⟨w, O5, Hr5, ⟨u, j, hw, hj, hz, hI5⟩, e5, s5, k5⟩ => ?_
    subst hw
    cases k5
    have z1 : H5 Dl = some (.lst us) := s5.cell hj
    exact ⟨us, z1, hz, us ++ [v], _, Hr5, hI5, ((e.trans e2).trans e4).trans e5, s5.put hj (c' := .o (.lst (us ++ [v]))) upd_same⟩
  · intro H' ⟨us, O', Hr', hI, e, s'⟩
    exact hQ _ _ ⟨_, O', Hr', ⟨Dl, rfl, hend us O' hI⟩, e1.trans e, s', rfl⟩

theorem ds_setLcR1 {y z : Str} {tp zp spos : Pos} (k i : Nat) (hN : X.N.Nodup) (ok : BlkOk X.N X.env.scope scope [(y, i)])
    (h : IterD X (.Name y tp) iter τ O fun ds O1 => LcR X τ O1 elt scope [i] (gName i) (fun p O2 => D.nx (τ.set k (some (.r (.ref p)))) O2) ds)
    (hg : ∀ (s : Shared) (H : Hp) (C : Addr) (cl : List (Str × Addr)) (fp : List Addr), PG (blk X scope s H C cl fp) (.Name y tp) (gName i) := by exact fun _ _ _ _ _ => pg_name (by assumption) rfl (by first | exact Or.inl rfl | exact Or.inr rfl))
    (hsw : swapsWith (.ListComp elt [⟨.Name y tp, iter, [], 0⟩] scope pos) (some (.Name z zp)) spos.line X.env = pure true := by exact sw_true rfl rfl rfl (by decide +kernel))
    (hc : X.calm = true := by rfl) (hs : ∀ x, foldedSetIterable iter X.env x = pure x := by intro _; rfl) (hy : X.N[k]? = some z := by rfl) (hyl : X.env.scope.names.lookup z = some .local := by rfl) :
    DS X τ O (.Assign [.Name z zp] (.ListComp elt [⟨.Name y tp, iter, [], 0⟩] scope pos) spos) D := by
  refine ⟨?_⟩
  intro σ Hr H E hE hS hD pins s I
  refine (ps_setLc (own := [(y, i)]) (tt := tIfs X scope []) (te := tElt X scope elt) hc hN hy hyl hsw pi_ti ok hg (fun s H C cl fp => ⟨fun pins s1 σ H1 Q I h => h s H C cl fp pins s1 I⟩) (fun s H C cl fp => ⟨fun pins s1 σ H1 Q I h => h s H C cl fp pins s1 I⟩) hs).run pins s σ H E I ?_
  exact lcR_data h hE hS fun v H' ⟨w, O', Hr', ⟨p, hw, hP⟩, e, s', k⟩ => hD.nx _ H' ⟨_, _, Hr', hP, e, s', (hE.mono e).set _ (v := v) (w := .r (.ref p)) (by rw [hw] at k; exact k)⟩
end
end DL

set_option Elab.async false
set_option linter.all false
set_option maxRecDepth 100000
set_option maxHeartbeats 2000000
/-! objects: an owned instance whose fields are told -/
namespace DL
open PySem PySem.Spec PyProof.Rows L2
abbrev FD (K : PySem.W.Frag) (Hr : Hp) : List (Str × V) → List (Str × W) → Prop := Paired fun a b => a.1 = b.1 ∧ WOk K Hr a.2 b.2
theorem FD.mono {K : PySem.W.Frag} {Hr Hr' : Hp} (e : Same Hr Hr') {vs : List (Str × V)} {fs : List (Str × W)} (h : FD K Hr vs fs) : FD K Hr' vs fs := Paired.mapP h fun _ _ q => ⟨q.1, q.2.mono e⟩
/-- an instance of the class C, its dict at dx -/
def insC (C dx : Addr) (fs : List (Str × W)) : XC where
  ok K Hr H p := ∃ vs, H p = some (.ins C dx vs) ∧ FD K Hr vs fs
  mono e h := by
    obtain ⟨vs, a, b⟩ := h
    exact ⟨vs, a, b.mono e⟩
  some_ h := by
    obtain ⟨vs, a, _⟩ := h
    exact ⟨_, a⟩
  heap h e := by
    obtain ⟨vs, a, b⟩ := h
    exact ⟨vs, e.trans a, b⟩
def putW (f : Str) (w : W) : List (Str × W) → List (Str × W)
  | [] => [(f, w)]
  | (g, x) :: r => if g = f then (g, w) :: r else (g, x) :: putW f w r
section
variable {K : PySem.W.Frag} {Hr : Hp} {vs : List (Str × V)} {fs : List (Str × W)}
theorem FD.look (h : FD K Hr vs fs) (f : Str) : (vs.lookup f = none ∧ fs.lookup f = none) ∨ ∃ v w, vs.lookup f = some v ∧ fs.lookup f = some w ∧ WOk K Hr v w := by
  induction h with
  | nil => exact .inl ⟨rfl, rfl⟩
  | @cons a b as bs h t ih =>
    obtain ⟨a1, a2⟩ := a
    obtain ⟨b1, b2⟩ := b
    obtain ⟨h1, h2⟩ := h
    simp only at h1
    subst h1
    rw [List.lookup_cons, List.lookup_cons]
    by_cases c : (f == a1) = true
    · rw [c]
      exact .inr ⟨a2, b2, rfl, rfl, h2⟩
    · rw [Bool.not_eq_true] at c
      rw [c]
      exact ih
theorem FD.put (h : FD K Hr vs fs) {f : Str} {v : V} {w : W} (q : WOk K Hr v w) : FD K Hr (putF f v vs) (putW f w fs) := by
  induction h with
  | nil => exact .cons ⟨rfl, q⟩ .nil
  | @cons a b as bs h t ih =>
    obtain ⟨a1, a2⟩ := a
    obtain ⟨b1, b2⟩ := b
    obtain ⟨h1, h2⟩ := h
    simp only at h1
    subst h1
    unfold putF putW
    by_cases c : a1 = f
    · rw [if_pos c, if_pos c]
      exact .cons ⟨rfl, q⟩ t
    · rw [if_neg c, if_neg c]
      exact .cons ⟨rfl, h2⟩ ih
theorem FD.len (h : FD K Hr vs fs) : vs.length = fs.length := Paired.length h
end
section
variable {X : Cx} {τ : Tau} {O : Own} {P : W → Own → Prop} {PX : Value → Own → Prop} {PT : Tau → Value → Own → Prop} {D : DEn} {pos pos' tpos apos p : Pos} {x f m : Str} {e o value : Expr} {es : List Expr} {k n : Nat} {pre : Pre} {prx : PreX} {C : Addr}
/-- o.f -/
theorem de_fld (c : Cls X.K C) (na : NoAttr X.K C f) (h : DE X τ O e fun w1 O1 => ∃ (q : Addr) (j : Nat) (dx : Addr) (fs : List (Str × W)) (w : W), w1 = .r (.ref q) ∧ O1[j]? = some (q, .x (insC C dx fs)) ∧ fs.lookup f = some w ∧ P w O1)
    (hb : attributeBase e f X.env (eval e X.env) = eval e X.env := by rfl) : DE X τ O (.Attribute e f pos) P := by
  refine ⟨?_⟩
  intro σ Hr H Q hE hS hQ pins s I
  refine (pe_fld pe_te hb).run pins s σ H Q I ?_
  refine h σ Hr H _ hE hS fun v H1 ⟨w1, O1, Hr1, ⟨q, j, dx, fs, w, hw, hj, hl, hp⟩, e1, s1, k1⟩ => ?_
  subst hw
  cases k1
  obtain ⟨vs, a, b⟩ := s1.cell hj
  rcases b.look f with ⟨b1, b2⟩ | ⟨v, w', b1, b2, b3⟩
  · rw [hl] at b2; cases b2
  · rw [hl] at b2
    cases b2
    exact ⟨q, C, dx, vs, v, rfl, a, c, na, b1, hQ _ _ ⟨_, O1, Hr1, hp, e1, s1, b3⟩⟩
/-- o.f = e -/
theorem ds_fld (c : Cls X.K C) (na : NoAttr X.K C f) (h : DE X τ O value fun w O1 => DE X τ O1 o fun w1 O2 => ∃ (q : Addr) (j : Nat) (dx : Addr) (fs : List (Str × W)), w1 = .r (.ref q) ∧ O2[j]? = some (q, .x (insC C dx fs)) ∧ fs.length < 1000 ∧ D.nx τ (O2.set j (q, .x (insC C dx (putW f w fs)))))
    (hs : swapsWith value (some (.Attribute o f pos')) pos.line X.env = pure false := by rfl) : DS X τ O (.Assign [.Attribute o f pos'] value pos) D := by
  refine ⟨?_⟩
  intro σ Hr H E hE hS hD pins s I
  refine (ps_fld pe_te pe_te hs).run pins s σ H E I ?_
  refine h σ Hr H _ hE hS fun v H1 ⟨w, O1, Hr1, h1, e1, s1, k1⟩ => ?_
  refine h1 σ Hr1 H1 _ (hE.mono e1) s1 fun u H2 ⟨w1, O2, Hr2, ⟨q, j, dx, fs, hw, hj, hl, hp⟩, e2, s2, k2⟩ => ?_
  subst hw
  cases k2
  obtain ⟨vs, a, b⟩ := s2.cell hj
  refine ⟨q, C, dx, vs, rfl, a, c, na, by rw [b.len]; exact hl, ?_⟩
  refine hD.nx _ _ ⟨τ, _, Hr2, hp, e1.trans e2, s2.put hj (c' := .x (insC C dx _)) ⟨_, upd_same, b.put (k1.mono e2)⟩, hE.mono (e1.trans e2)⟩
/-- a class, as its callers know it -/
structure MkD (P : Program) (w : World) (K : PySem.W.Frag) (mg : Str → Option Value) (base : Heap) (k : Nat) (x : Str) (C : Addr) (n : Nat) (pre : Pre) : Prop where
  ex : ∃ (f : Addr) (fd : FuncData) (ps : List Str), L2.Mk K C f ∧ FnOk P w K mg base CX0 k f fd ps (spD K (n + 1) pre) ∧ mg x = some (.ref C) ∧ Binds K fd ps []
/-- a method, as its callers know it -/
structure OMet (P : Program) (w : World) (K : PySem.W.Frag) (mg : Str → Option Value) (base : Heap) (k : Nat) (C : Addr) (m : Str) (n : Nat) (pre : Pre) : Prop where
  ex : ∃ (f : Addr) (fd : FuncData) (ps : List Str), Cls K C ∧ Meth K C m f ∧ FnOk P w K mg base CX0 k f fd ps (spD K (n + 1) pre) ∧ Binds K fd ps []
/-- one that may raise -/
structure OMetX (P : Program) (w : World) (K : PySem.W.Frag) (mg : Str → Option Value) (base : Heap) (k : Nat) (C : Addr) (m : Str) (n : Nat) (prx : PreX) : Prop where
  ex : ∃ (f : Addr) (fd : FuncData) (ps : List Str), Cls K C ∧ Meth K C m f ∧ FnOk P w K mg base (CX P w) k f fd ps (spX K (n + 1) prx) ∧ Binds K fd ps []
theorem new_ins {K : PySem.W.Frag} {Hr H : Hp} {O : Own} {x dx C : Addr} (S : Sep K Hr O H) (h1 : H x = none) (h2 : H dx = none) (ne : dx ≠ x) : Sep K Hr ((x, .x (insC C dx [])) :: (dx, .o (.own x)) :: O) (upd (upd H dx (.own x)) x (.ins C dx [])) := by
  have s1 : Sep K Hr ((dx, .o (.own x)) :: O) (upd H dx (.own x)) := S.newOwn (c := .o (.own x)) h2 upd_same
  exact s1.newOwn (c := .x (insC C dx [])) (by rw [upd_ne (Ne.symm ne)]; exact h1) ⟨[], upd_same, .nil⟩
/-- C() -/
theorem de_make0 (F : MkD X.prog X.w X.K X.mg X.base k x C 0 pre) (hr : Room (k + 1) X.A) (h : ∀ a dx : Addr, pre [.r (.ref a)] ((a, .x (insC C dx [])) :: (dx, .o (.own a)) :: O) fun w O2 => w = .d .none ∧ P (.r (.ref a)) O2)
    (hg : Gl X x := by rfl) (hdb : (x == ("__debug__" : Str)) = false := by decide) : DE X τ O (.Call (.Name x p) [] [] pos) P := by
  refine ⟨?_⟩
  intro σ Hr H Q hE hS hQ pins s I
  obtain ⟨f, fd, ps, M, F, hm, hb⟩ := F.ex
  refine (pe_make0 M F hr hg hm hb .nil (pass0 (X := X)) hdb).run pins s σ H Q I ?_
  intro a dx h1 h2 ne
  refine ⟨[.r (.ref a)], _, Hr, _, new_ins hS h1 h2 ne, .cons rfl .nil, rfl, h a dx, fun v H' ⟨w, O2, Hr2, ⟨hw, hp⟩, e2, s2, k2⟩ => ?_⟩
  subst hw
  refine ⟨by cases k2; rfl, hQ _ _ ⟨_, O2, Hr2, hp, e2, s2, rfl⟩⟩
theorem de_make (F : MkD X.prog X.w X.K X.mg X.base k x C n pre) (hr : Room (k + 1) X.A) (h : DA X τ O (e :: es) fun ws O1 => ws.length = n ∧ ∀ a dx : Addr, pre (.r (.ref a) :: ws) ((a, .x (insC C dx [])) :: (dx, .o (.own a)) :: O1) fun w O2 => w = .d .none ∧ P (.r (.ref a)) O2)
    (hg : Gl X x := by rfl) (hdb : (x == ("__debug__" : Str)) = false := by decide) (he : starEach (e :: es) X.env = (false, eval e X.env) :: starEach es X.env := by rfl) (hpl : (backTo pos (starEach es X.env)).any (·.1) = false := by rfl) : DE X τ O (.Call (.Name x p) (e :: es) [] pos) P := by
  refine ⟨?_⟩
  intro σ Hr H Q hE hS hQ pins s I
  obtain ⟨f, fd, ps, M, F, hm, hb⟩ := F.ex
  refine (pe_make M F hr hg hm hb .nil (pass0 (X := X)) pa_ta hdb he hpl).run pins s σ H Q I ?_
  refine h σ Hr H _ hE hS fun vs H1 ⟨ws, O1, Hr1, ⟨hl, hp⟩, e1, s1, k1⟩ => ?_
  intro a dx h1 h2 ne
  rw [List.append_nil]
  refine ⟨.r (.ref a) :: ws, _, Hr1, _, new_ins s1 h1 h2 ne, .cons rfl k1, by rw [List.length_cons, hl], hp a dx, fun v H' ⟨w, O2, Hr2, ⟨hw, hp⟩, e2, s2, k2⟩ => ?_⟩
  subst hw
  refine ⟨by cases k2; rfl, hQ _ _ ⟨_, O2, Hr2, hp, e1.trans e2, s2, rfl⟩⟩
/-- o.m(..) -/
theorem de_om {pl : Sem Bool} (F : OMet X.prog X.w X.K X.mg X.base k C m n pre) (hr : Room k X.A) (h : DE X τ O o fun w1 O1 => ∃ (q : Addr) (j : Nat) (dx : Addr) (fs : List (Str × W)), w1 = .r (.ref q) ∧ O1[j]? = some (q, .x (insC C dx fs)) ∧ fs.lookup m = none ∧ DA X τ O1 (e :: es) fun ws O2 => ws.length = n ∧ pre (w1 :: ws) O2 P)
    (hst : starEach (e :: es) X.env = (false, eval e X.env) :: starEach es X.env := by rfl) (hpl : (backTo pos (starEach es X.env)).any (·.1) = false := by rfl)
    (ht : eval (.Call (.Attribute o m apos) (e :: es) [] pos) X.env = (do
      let ov ← eval o X.env
      standAt apos.atName
      let (f, first) ← holding [ov] (getMethod ov m pl)
      callWith pos f first (backTo pos (starEach (e :: es) X.env)) (backToKw pos (keywordEach [] X.env))) := by rfl) : DE X τ O (.Call (.Attribute o m apos) (e :: es) [] pos) P := by
  refine ⟨?_⟩
  intro σ Hr H Q hE hS hQ pins s I
  obtain ⟨f, fd, ps, c, hm, F, hb⟩ := F.ex
  refine (pe_meth pe_te c hm F hr hb .nil (pass0 (X := X)) pa_ta hst hpl ht).run pins s σ H Q I ?_
  refine h σ Hr H _ hE hS fun v H1 ⟨w1, O1, Hr1, ⟨q, j, dx, fs, hw, hj, hl, h1⟩, e1, s1, k1⟩ => ?_
  subst hw
  cases k1
  obtain ⟨vs, a, b⟩ := s1.cell hj
  refine ⟨q, dx, vs, rfl, a, ?_, ?_⟩
  · rcases b.look m with ⟨b1, b2⟩ | ⟨v, w', b1, b2, b3⟩
    · exact b1
    · rw [hl] at b2; cases b2
  refine h1 σ Hr1 H1 _ (hE.mono e1) s1 fun us H2 ⟨ws, O2, Hr2, ⟨hn, hp⟩, e2, s2, k2⟩ => ?_
  exact ⟨.r (.ref q) :: ws, O2, Hr2, P, s2, .cons rfl (by rw [List.append_nil]; exact k2), by rw [List.length_cons, hn], hp, fun v H' q => hQ v H' (po_to (e1.trans e2) q)⟩
theorem de_om0 {pl : Sem Bool} (F : OMet X.prog X.w X.K X.mg X.base k C m 0 pre) (hr : Room k X.A) (h : DE X τ O o fun w1 O1 => ∃ (q : Addr) (j : Nat) (dx : Addr) (fs : List (Str × W)), w1 = .r (.ref q) ∧ O1[j]? = some (q, .x (insC C dx fs)) ∧ fs.lookup m = none ∧ pre [w1] O1 P)
    (ht : eval (.Call (.Attribute o m apos) [] [] pos) X.env = (do
      let ov ← eval o X.env
      standAt apos.atName
      let (f, first) ← holding [ov] (getMethod ov m pl)
      callWith pos f first (backTo pos (starEach [] X.env)) (backToKw pos (keywordEach [] X.env))) := by rfl) : DE X τ O (.Call (.Attribute o m apos) [] [] pos) P := by
  refine ⟨?_⟩
  intro σ Hr H Q hE hS hQ pins s I
  obtain ⟨f, fd, ps, c, hm, F, hb⟩ := F.ex
  refine (pe_meth0 pe_te c hm F hr hb .nil (pass0 (X := X)) ht).run pins s σ H Q I ?_
  refine h σ Hr H _ hE hS fun v H1 ⟨w1, O1, Hr1, ⟨q, j, dx, fs, hw, hj, hl, h1⟩, e1, s1, k1⟩ => ?_
  subst hw
  cases k1
  obtain ⟨vs, a, b⟩ := s1.cell hj
  refine ⟨q, dx, vs, rfl, a, ?_, ?_⟩
  · rcases b.look m with ⟨b1, b2⟩ | ⟨v, w', b1, b2, b3⟩
    · exact b1
    · rw [hl] at b2; cases b2
  exact ⟨[.r (.ref q)], O1, Hr1, P, s1, .cons rfl .nil, rfl, h1, fun v H' q => hQ v H' (po_to e1 q)⟩
/-- o.m(..) that may raise -/
theorem pe_omX {pl : Sem Bool} {CX : CXT} {E : L2.St → XK} {f : Addr} {fd : FuncData} {ps : List Str} {sp : Sp} {ta : TE} {t : TA} (he : PE X o ta) (c : Cls X.K C) (hm : Meth X.K C m f) (F : FnOk X.prog X.w X.K X.mg X.base CX k f fd ps sp) (hr : Room k X.A) (hb : Binds X.K fd ps []) (hx : ∀ σ, PassesAt CX X σ (E σ)) (ha : PA X (e :: es) t)
    (hst : starEach (e :: es) X.env = (false, eval e X.env) :: starEach es X.env) (hpl : (backTo pos (starEach es X.env)).any (·.1) = false)
    (ht : eval (.Call (.Attribute o m apos) (e :: es) [] pos) X.env = (do
      let ov ← eval o X.env
      standAt apos.atName
      let (f, first) ← holding [ov] (getMethod ov m pl)
      callWith pos f first (backTo pos (starEach (e :: es) X.env)) (backToKw pos (keywordEach [] X.env)))) :
    PE X (.Call (.Attribute o m apos) (e :: es) [] pos) fun σ H Q => ta σ H fun x H1 => ∃ a dx fs, x = .ref a ∧ H1 a = some (.ins C dx fs) ∧ fs.lookup m = none ∧ t σ H1 fun vs H2 => sp (x :: vs) H2 Q (E σ) := by
  refine ⟨fun pins s σ H Q I h => ?_⟩
  refine PySem.W.methodCall_KW (pl := pl) (thn (he.run pins s σ H _ I h) fun u s1 ⟨x, H1, I1, rx, a, dx, fs, ex, ea, l, q⟩ => ?_) ht
  subst ex
  obtain rfl : u = Value.ref a := rx
  refine getmeth_ok I1 ea c hm l (PySem.W.callWith_K (first := [.ref a]) (h₀ := X.base) I.ok.mod.kin hm.kp (thn (ha.run pos pins s1 σ H1 _ I1 q) fun us s2 ⟨vs, H2, I2, r, q2⟩ => ⟨I2.kIn, ?_⟩) hst hpl)
  exact run_fnS (us := .ref a :: us) (vs := .ref a :: vs) F hr hb (hx σ) I2 (.cons rfl r) q2
theorem de_omX {pl : Sem Bool} (F : OMetX X.prog X.w X.K X.mg X.base k C m n prx) (hr : Room k X.A) (T : RaF X PX) (h : DE X τ O o fun w1 O1 => ∃ (q : Addr) (j : Nat) (dx : Addr) (fs : List (Str × W)), w1 = .r (.ref q) ∧ O1[j]? = some (q, .x (insC C dx fs)) ∧ fs.lookup m = none ∧ DA X τ O1 (e :: es) fun ws O2 => ws.length = n ∧ prx (w1 :: ws) O2 P PX)
    (hst : starEach (e :: es) X.env = (false, eval e X.env) :: starEach es X.env := by rfl) (hpl : (backTo pos (starEach es X.env)).any (·.1) = false := by rfl)
    (ht : eval (.Call (.Attribute o m apos) (e :: es) [] pos) X.env = (do
      let ov ← eval o X.env
      standAt apos.atName
      let (f, first) ← holding [ov] (getMethod ov m pl)
      callWith pos f first (backTo pos (starEach (e :: es) X.env)) (backToKw pos (keywordEach [] X.env))) := by rfl) : DE X τ O (.Call (.Attribute o m apos) (e :: es) [] pos) P := by
  refine ⟨?_⟩
  intro σ Hr H Q hE hS hQ pins s I
  obtain ⟨f, fd, ps, c, hm, F, hb⟩ := F.ex
  obtain ⟨W, tk, hw⟩ := T
  refine (pe_omX pe_te c hm F hr hb (fun σ => passAt tk σ) pa_ta hst hpl ht).run pins s σ H Q I ?_
  refine h σ Hr H _ hE hS fun v H1 ⟨w1, O1, Hr1, ⟨q, j, dx, fs, hw1, hj, hl, h1⟩, e1, s1, k1⟩ => ?_
  subst hw1
  cases k1
  obtain ⟨vs, a, b⟩ := s1.cell hj
  refine ⟨q, dx, vs, rfl, a, ?_, ?_⟩
  · rcases b.look m with ⟨b1, b2⟩ | ⟨v, w', b1, b2, b3⟩
    · exact b1
    · rw [hl] at b2; cases b2
  refine h1 σ Hr1 H1 _ (hE.mono e1) s1 fun us H2 ⟨ws, O2, Hr2, ⟨hn, hp⟩, e2, s2, k2⟩ => ?_
  exact ⟨.r (.ref q) :: ws, O2, Hr2, P, PX, s2, .cons rfl k2, by rw [List.length_cons, hn], hp, fun v H' q => hQ v H' (po_to (e1.trans e2) q), fun cls Hr' O' H' p s' => hw cls σ Hr' H' O' s' p⟩
theorem de_omT {pl : Sem Bool} (F : OMetX X.prog X.w X.K X.mg X.base k C m n prx) (hr : Room k X.A) (T : RaT X PT) (h : DE X τ O o fun w1 O1 => ∃ (q : Addr) (j : Nat) (dx : Addr) (fs : List (Str × W)), w1 = .r (.ref q) ∧ O1[j]? = some (q, .x (insC C dx fs)) ∧ fs.lookup m = none ∧ DA X τ O1 (e :: es) fun ws O2 => ws.length = n ∧
      ∃ (j : Nat) (p : Addr) (c : Cell), O2[j]? = some (p, c) ∧ ∀ r : XC, prx (w1 :: ws) (O2.set j (p, .x r)) (fun w O3 => ∃ O4, Unst p r c O3 O4 ∧ P w O4) (fun cls O3 => ∃ O4, Unst p r c O3 O4 ∧ PT τ cls O4))
    (hst : starEach (e :: es) X.env = (false, eval e X.env) :: starEach es X.env := by rfl) (hpl : (backTo pos (starEach es X.env)).any (·.1) = false := by rfl)
    (ht : eval (.Call (.Attribute o m apos) (e :: es) [] pos) X.env = (do
      let ov ← eval o X.env
      standAt apos.atName
      let (f, first) ← holding [ov] (getMethod ov m pl)
      callWith pos f first (backTo pos (starEach (e :: es) X.env)) (backToKw pos (keywordEach [] X.env))) := by rfl) : DE X τ O (.Call (.Attribute o m apos) (e :: es) [] pos) P := by
  refine ⟨?_⟩
  intro σ Hr H Q hE hS hQ pins s I
  obtain ⟨f, fd, ps, c, hm, F, hb⟩ := F.ex
  obtain ⟨W, tk, hw⟩ := T
  refine (pe_omX pe_te c hm F hr hb (fun σ => passAt tk σ) pa_ta hst hpl ht).run pins s σ H Q I ?_
  refine h σ Hr H _ hE hS fun v H1 ⟨w1, O1, Hr1, ⟨q, j, dx, fs, hw1, hj, hl, h1⟩, e1, s1, k1⟩ => ?_
  subst hw1
  cases k1
  obtain ⟨vs, a, b⟩ := s1.cell hj
  refine ⟨q, dx, vs, rfl, a, ?_, ?_⟩
  · rcases b.look m with ⟨b1, b2⟩ | ⟨v, w', b1, b2, b3⟩
    · exact b1
    · rw [hl] at b2; cases b2
  refine h1 σ Hr1 H1 _ (hE.mono e1) s1 fun us H2 ⟨ws, O2, Hr2, ⟨hn, j2, p2, c2, hj2, hp⟩, e2, s2, k2⟩ => ?_
  refine ⟨.r (.ref q) :: ws, _, Hr2, _, _, sep_stamp s2 hj2, .cons rfl k2, by rw [List.length_cons, hn], hp _, ?_, ?_⟩
  · rintro v H' ⟨w, O3, Hr3, ⟨O4, hu, hP⟩, e3, s3, k3⟩
    exact hQ v H' (po_to (e1.trans e2) ⟨w, O4, Hr3, hP, e3, (unst_sep s3 hu).2, k3⟩)
  · rintro cls Hr' O' H' ⟨O4, hu, hP⟩ s'
    obtain ⟨e3, s3⟩ := unst_sep s' hu
    exact hw cls σ τ Hr' H' O4 ((hE.mono (e1.trans e2)).mono e3) s3 hP
/-- where nothing is raised -/
theorem ra_none : RaF X fun _ _ => False := ⟨_, takes0, fun _ _ _ _ _ _ h => h.elim⟩
end
end DL

set_option Elab.async false
set_option linter.all false
set_option maxRecDepth 100000
set_option maxHeartbeats 2000000
/-! dicts with text keys: a comprehension over the keys, d.pop(k, x), sorted(d) -/
namespace DL
open PySem PySem.Spec PyProof.Rows L2
theorem set_back {α : Type} {O : List α} {j : Nat} {x y : α} (h : O[j]? = some x) : (O.set j y).set j x = O := by
  rw [List.set_set]
  apply List.ext_getElem?
  intro i
  rw [List.getElem?_set]
  split
  · rename_i q
    subst q
    have hl := (List.getElem?_eq_some_iff.mp h).1
    first | exact h.symm | (rw [if_pos hl]; exact h.symm)
  · rfl
def dcK (vf : Key → PyData → PyData) (kvs : List (Key × PyData)) : List (Key × PyData) := kvs.foldl (fun acc kv => putD acc kv.1 (vf kv.1 kv.2)) []
theorem dcK_len (vf : Key → PyData → PyData) : ∀ (kvs acc : List (Key × PyData)), (kvs.foldl (fun acc kv => putD acc kv.1 (vf kv.1 kv.2)) acc).length ≤ acc.length + kvs.length
  | [], acc => Nat.le_refl _
  | kv :: kvs, acc => by
    rw [List.foldl_cons]
    refine Nat.le_trans (dcK_len vf kvs _) ?_
    have := length_putD acc kv.1 (vf kv.1 kv.2)
    simp only [List.length_cons]
    omega
theorem putD_new {acc : List (Key × PyData)} {k : Key} {d : PyData} (h : k ∉ acc.map (·.1)) : putD acc k d = acc ++ [(k, d)] := by
  unfold putD
  have : (acc.any fun kv => decide (kv.1 = k)) = false := by
    rw [List.any_eq_false]
    intro kv hkv q
    exact h (List.mem_map.mpr ⟨kv, hkv, of_decide_eq_true q⟩)
  rw [this]
  rfl
theorem dcK_map (vf : Key → PyData → PyData) : ∀ (kvs acc : List (Key × PyData)), ((acc ++ kvs).map (·.1)).Nodup → kvs.foldl (fun acc kv => putD acc kv.1 (vf kv.1 kv.2)) acc = acc ++ kvs.map fun kv => (kv.1, vf kv.1 kv.2)
  | [], acc, _ => by simp
  | kv :: kvs, acc, nd => by
    rw [List.foldl_cons]
    have h1 : kv.1 ∉ acc.map (·.1) := by
      rw [List.map_append, List.map_cons, List.nodup_append] at nd
      exact fun m => nd.2.2 _ m _ List.mem_cons_self rfl
    rw [putD_new h1, dcK_map vf kvs]
    · simp
    · have : ((acc ++ [(kv.1, vf kv.1 kv.2)]) ++ kvs).map (·.1) = (acc ++ kv :: kvs).map (·.1) := by simp
      rw [this]
      exact nd
section
variable {X : Cx} {τ : Tau} {O : Own} {P : W → Own → Prop} {kx vx iter o e f : Expr} {scope : Scope} {spos pos apos cpos : Pos}
theorem de_dcK {y : Str} {tp : Pos} (i : Nat) (hN : X.N.Nodup) (ok : BlkOk X.N X.env.scope scope [(y, i)]) {p : Addr} (j : Nat) {kvs : List (Key × PyData)} (hj : O[j]? = some (p, .k kvs)) (vf : Key → PyData → PyData) (hz : kvs.length < sizeLine)
    (h : ∀ (od : Obj) (vs : List (Key × V)), DE X τ (O.set j (p, .x (FZ od vs kvs))) iter (fun w O2 => w = .r (.ref p) ∧ O2 = O.set j (p, .x (FZ od vs kvs))) ∧
      ∀ (m : Nat) (k : Key) (d : PyData), kvs[m]? = some (k, d) → ∃ τ2, TgOk X.K (gName i) [i] (keyD k) (wipeT τ [i]) τ2 ∧ ∀ (q : Addr) (acc : List (Key × PyData)) (s : Shared) (H : Hp) (C : Addr) (cl : List (Str × Addr)) (fp : List Addr),
        DE (blk X scope s H C cl fp) τ2 ((q, .k acc) :: O.set j (p, .x (FZ od vs kvs))) kx (fun w O4 => w = .d (keyD k) ∧ O4 = (q, .k acc) :: O.set j (p, .x (FZ od vs kvs))) ∧
        DE (blk X scope s H C cl fp) τ2 ((q, .k acc) :: O.set j (p, .x (FZ od vs kvs))) vx (fun w O4 => w = .d (vf k d) ∧ O4 = (q, .k acc) :: O.set j (p, .x (FZ od vs kvs))))
    (hend : ∀ q, P (.r (.ref q)) ((q, .k (dcK vf kvs)) :: O))
    (hg : ∀ (s : Shared) (H : Hp) (C : Addr) (cl : List (Str × Addr)) (fp : List Addr), PG (blk X scope s H C cl fp) (.Name y tp) (gName i) := by exact fun _ _ _ _ _ => pg_name (by assumption) rfl (by first | exact Or.inl rfl | exact Or.inr rfl)) (hc : X.calm = true := by rfl) (hs : ∀ x, foldedSetIterable iter X.env x = pure x := by intro _; rfl) :
    DE X τ O (.DictComp kx vx [⟨.Name y tp, iter, [], 0⟩] scope pos) P := by
  refine ⟨?_⟩
  intro σ Hr H Q hE hS hQ pins s I
  refine (pe_lock (pe_dc (own := [(y, i)]) (tt := tIfs X scope []) (tk := tElt X scope kx) (tv := tElt X scope vx) hc hN (pi_keys pe_te) ok hg (fun s H C cl fp => ⟨fun pins s1 σ H1 Q I h => h s H C cl fp pins s1 I⟩) (fun s H C cl fp => ⟨fun pins s1 σ H1 Q I h => h s H C cl fp pins s1 I⟩) (fun s H C cl fp => ⟨fun pins s1 σ H1 Q I h => h s H C cl fp pins s1 I⟩) hs)).run pins s σ H Q I ?_
  obtain ⟨vs, v1, v2⟩ := hS.cell hj
  refine ⟨p, .dK vs, v1, trivial, fun od => ?_⟩
  obtain ⟨hit, hstep⟩ := h od vs
  have hS2 : Sep X.K Hr (O.set j (p, .x (FZ od vs kvs))) (upd H p (.frz od (.dK vs))) := hS.put hj (c' := .x (FZ od vs kvs)) ⟨upd_same, v2⟩
  have hj2 : (O.set j (p, .x (FZ od vs kvs)))[j]? = some (p, .x (FZ od vs kvs)) := by
    have hl := (List.getElem?_eq_some_iff.mp hj).1
    rw [List.getElem?_set, if_pos rfl, if_pos hl]
  have hback : (O.set j (p, Cell.x (FZ od vs kvs))).set j (p, .k kvs) = O := set_back hj
  generalize O.set j (p, Cell.x (FZ od vs kvs)) = O1 at *
  refine hit σ Hr _ _ hE hS2 fun v H1 ⟨w, O1', Hr1, ⟨hw, ho⟩, e1, s1, k1⟩ => ?_
  subst hw ho
  have k1' : v = .ref p := k1
  subst k1'
  refine ⟨p, od, rfl, .inl ⟨vs, (show H1 p = some (.frz od (.dK vs)) ∧ KD X.K Hr1 vs kvs from s1.cell hj2).1, ?_⟩⟩
  have hlen : vs.length = kvs.length := v2.len
  intro Dl hD
  refine dc_it (J := Itk p od vs) (n := vs.length) (G := fun H => H p = some (.frz od (.dK vs))) (Y := fun i H v H' => H' = H ∧ ∃ k u, vs[i]? = some (k, u) ∧ v = kV k) (g := gName i) (vs := [i]) (σ := σ) (tt := tIfs X scope []) (tk := tElt X scope kx) (tv := tElt X scope vx) (Qd := fun H' => H' p = some (.frz od (.dK vs)) ∧ Q (.ref Dl) (upd H' p (.dK vs)))
    ⟨fun i H hi q => ⟨q, hi⟩, fun H q => ⟨q, Nat.le_refl _⟩, fun _ _ _ _ _ q y => y⟩
    (fun m H' => ∃ (Hr' : Hp), Same Hr1 Hr' ∧ Sep X.K Hr' ((Dl, .k ((kvs.take m).foldl (fun acc kv => putD acc kv.1 (vf kv.1 kv.2)) [])) :: O1') H') ⟨Hr1, Same.refl _, s1.newOwn (c := .k []) hD ⟨[], upd_same, .nil⟩⟩ ?_ ?_ ?_
  · intro m H' _ ⟨Hr', e, s'⟩
    exact (show H' p = some (.frz od (.dK vs)) ∧ KD X.K Hr' vs kvs from s'.cell (j := j + 1) (p := p) (c := .x (FZ od vs kvs)) (by rw [List.getElem?_cons_succ]; exact hj2)).1
  · intro m x H2 H3 hi ⟨Hr', e, s'⟩ ⟨y1, k0, u0, y2, y3⟩
    subst y1 y3
    obtain ⟨q1, q2⟩ := (show H3 p = some (.frz od (.dK vs)) ∧ KD X.K Hr' vs kvs from s'.cell (j := j + 1) (p := p) (c := .x (FZ od vs kvs)) (by rw [List.getElem?_cons_succ]; exact hj2))
    obtain ⟨db, hb, _⟩ := kd_at q2 y2
    obtain ⟨τ2, htg, hbb⟩ := hstep m k0 db hb
    have e3 : Same Hr Hr' := e1.trans e
    refine htg (kV k0) (wipe σ [i]) Hr' H3 _ ((hE.mono e3).wiped [i]) s'.ex (dv_key k0) ?_
    intro σ' hE' hw
    refine ⟨hw σ rfl, ?_⟩
    have eN : (kvs.take (m + 1)).foldl (fun acc kv => putD acc kv.1 (vf kv.1 kv.2)) [] = putD ((kvs.take m).foldl (fun acc kv => putD acc kv.1 (vf kv.1 kv.2)) []) k0 (vf k0 db) := by
      rw [List.take_succ, hb, List.foldl_append]
      rfl
    have hl := dcK_len vf (kvs.take m) []
    rw [eN]
    generalize (kvs.take m).foldl (fun acc kv => putD acc kv.1 (vf kv.1 kv.2)) [] = acc at s' hl ⊢
    intro s0 H0 C cl fp
    refine dts_nil (P := fun b O3 => b = true ∧ O3 = (Dl, Cell.k acc) :: O1') ⟨rfl, rfl⟩ σ' Hr' H3 _ hE' s' fun k H4 ⟨O4, Hr4, ⟨hk, p4⟩, e4, s4⟩ => ?_
    subst hk p4
    rw [if_pos rfl]
    intro s0 H0 C cl fp
    refine (hbb Dl acc s0 H0 C cl fp).1 σ' Hr4 H4 _ (hE'.mono e4) s4 fun y H5 ⟨w, O5, Hr5, ⟨hw, ho⟩, e5, s5, k5⟩ => ?_
    subst hw ho
    intro s0 H0 C cl fp
    refine (hbb Dl acc s0 H0 C cl fp).2 σ' Hr5 H5 _ (hE'.mono (e4.trans e5)) s5 fun z H6 ⟨w, O6, Hr6, ⟨hw, ho⟩, e6, s6, k6⟩ => ?_
    subst hw ho
    obtain ⟨us, u1, u2⟩ := s6.cell (j := 0) rfl
    have hlen2 : us.length < sizeLine := by
      rw [u2.len]
      refine Nat.lt_of_le_of_lt hl (Nat.lt_of_le_of_lt ?_ hz)
      simp [List.length_take]
      omega
    exact ⟨us, k0, keyD_v k5, u1, hlen2, Hr6, ((e.trans e4).trans e5).trans e6, s6.put (j := 0) rfl ⟨_, upd_same, u2.put k6⟩⟩
  · intro H' ⟨Hr', e, s'⟩
    rw [hlen, List.take_length] at s'
    obtain ⟨q1, q2⟩ := (show H' p = some (.frz od (.dK vs)) ∧ KD X.K Hr' vs kvs from s'.cell (j := j + 1) (p := p) (c := .x (FZ od vs kvs)) (by rw [List.getElem?_cons_succ]; exact hj2))
    have s3 := s'.put (j := j + 1) (o := .dK vs) (c' := .k kvs) (by simpa using hj2) ⟨vs, upd_same, q2⟩
    rw [List.set_cons_succ, hback] at s3
    exact ⟨q1, hQ _ _ ⟨_, _, Hr', hend Dl, e1.trans e, s3, rfl⟩⟩
def dropD (kvs : List (Key × PyData)) (k : Key) : List (Key × PyData) := kvs.filter fun kv => !decide (kv.1 = k)
theorem kd_drop {K : PySem.W.Frag} {Hr : Hp} (k : Key) {vs : List (Key × V)} {kvs : List (Key × PyData)} (h : KD K Hr vs kvs) : KD K Hr (dropK vs k) (dropD kvs k) := by
  unfold dropK dropD
  induction h with
  | nil => exact .nil
  | @cons a b as bs h t ih =>
    obtain ⟨h1, h2⟩ := h
    by_cases c : a.1 = k
    · rw [List.filter_cons_of_neg (by simp [c]), List.filter_cons_of_neg (by simp [← h1, c])]
      exact ih
    · rw [List.filter_cons_of_pos (by simp [c]), List.filter_cons_of_pos (by simp [← h1, c])]
      exact .cons ⟨h1, h2⟩ ih
/-- d.pop(k, None) as it stands, what it gives not wanted -/
theorem de_dpopN (h : DE X τ O o fun w1 O1 => ∃ (p : Addr) (j : Nat) (kvs0 : List (Key × PyData)), w1 = .r (.ref p) ∧ O1[j]? = some (p, .k kvs0) ∧ DE X τ O1 e fun w2 O2 => DE X τ O2 f fun w3 O3 => ∃ (j2 : Nat) (kvs : List (Key × PyData)) (k : Key), O3[j2]? = some (p, .k kvs) ∧ w2 = .d (keyD k) ∧
      (∀ d, valD kvs k = some d → P (.d d) (O3.set j2 (p, .k (dropD kvs k)))) ∧ (valD kvs k = none → P w3 O3))
    (m : M2 X o "pop" apos e f cpos) : DE X τ O (.Call (.Attribute o "pop" apos) [e, f] [] cpos) P := by
  refine ⟨?_⟩
  intro σ Hr H Q hE hS hQ pins s I
  refine (pe_dpop2 pe_te pe_te pe_te m).run pins s σ H Q I ?_
  refine h σ Hr H _ hE hS fun x H1 ⟨w1, O1, Hr1, ⟨p, j, kvs0, hw, hj, h1⟩, e1, s1, k1⟩ => ?_
  subst hw
  cases k1
  obtain ⟨vs0, v1, -⟩ := s1.cell hj
  refine ⟨p, rfl, ?_, ?_⟩
  · exact .inl ⟨_, .inl v1⟩
  refine h1 σ Hr1 H1 _ (hE.mono e1) s1 fun y H2 ⟨w2, O2, Hr2, h2, e2, s2, k2⟩ => ?_
  refine h2 σ Hr2 H2 _ (hE.mono (e1.trans e2)) s2 fun z H3 ⟨w3, O3, Hr3, ⟨j2, kvs, k, hj2, q2, hP1, hP2⟩, e3, s3, k3⟩ => ?_
  subst q2
  obtain ⟨vs, u1, u2⟩ := s3.cell hj2
  refine ⟨vs, k, u1, keyD_v (k2.mono e3), fun v hv => ?_, fun hn => ?_⟩
  · rcases u2.val k with ⟨z1, _⟩ | ⟨v', d, z1, z2, z3⟩
    · rw [hv] at z1; cases z1
    · rw [hv] at z1
      cases z1
      refine hQ _ _ ⟨_, _, Hr3, hP1 d z2, (e1.trans e2).trans e3, s3.put hj2 (c' := .k (dropD kvs k)) ⟨dropK vs k, upd_same, ?_⟩, z3⟩
      exact kd_drop k u2
  · rcases u2.val k with ⟨_, z2⟩ | ⟨v', d, z1, z2, z3⟩
    · exact hQ _ _ ⟨_, _, Hr3, hP2 z2, (e1.trans e2).trans e3, s3, k3⟩
    · rw [hn] at z1; cases z1
theorem kd_keys {K : PySem.W.Frag} {Hr : Hp} {vs : List (Key × V)} {kvs : List (Key × PyData)} (h : KD K Hr vs kvs) : vs.map (·.1) = kvs.map (·.1) := by
  induction h with
  | nil => rfl
  | cons h t ih => rw [List.map_cons, List.map_cons, ih, h.1]
/-- sorted(d) -/
theorem c_sortedK {p : Addr} (j : Nat) {kvs : List (Key × PyData)} {ks : List Str} (hj : O[j]? = some (p, .k kvs)) (hk : kvs.map (·.1) = ks.map Sum.inr) (hl : ks.length < 64) (h : ∀ ys : List Str, ys.Perm ks → sortedS ys = true → P (.d (.list (ys.map .str))) O) (hc : X.calm = true := by rfl) : CallD X (.builtin "sorted") [.r (.ref p)] O P :=
  calld_of (call_sortedD hc) fun vs Hr H Q hS h1 hQ => by
    cases h1 with
    | cons k1 k2 =>
      cases k2
      cases k1
      obtain ⟨us, a, b⟩ := hS.cell hj
      refine ⟨p, us, ks, rfl, .inl a, by rw [kd_keys b, hk], hl, fun ys q hp hs hq => ?_⟩
      refine hQ _ _ (po_new (h ys hp hs) hS hq (.lst upd_same ?_))
      have : ∀ (ys : List Str) (H : Hp), DvAll X.K H (ys.map V.str) (ys.map PyData.str) := by
        intro ys H
        induction ys with
        | nil => exact .nil
        | cons y ys ih => exact .cons (.str y) ih
      exact this _ _
end
end DL

set_option Elab.async false
set_option linter.all false
set_option maxRecDepth 100000
set_option maxHeartbeats 2000000
/-! dicts with tuple keys: pop, sorted; whole-number keys: pop, sorted; o.f += e -/
namespace ND
open PySem PySem.Spec PyProof.Rows L2
def dropN (rs : List NRow) (k : NKey) : List NRow := rs.filter fun r => !decide (rowK r.1 = k)
def AllT (rs : List NRow) : Prop := ∀ r ∈ rs, r.1.isSome = true
abbrev TRow := List Key × Addr × Value
abbrev backT (x : TRow) : Row NKey := (some x.1, .ref x.2.1, x.2.2)
theorem rows_tup {rs : List NRow} {xs : List (Row NKey)} (h : Paired RawR rs xs) : AllT rs → ∃ xt : List TRow, xs = xt.map backT ∧ Paired (fun (r : NRow) (x : TRow) => r.1 = some (x.1, x.2.1) ∧ RelV r.2 x.2.2) rs xt := by
  induction h with
  | nil => exact fun _ => ⟨[], rfl, .nil⟩
  | @cons r x rs xs g t ih =>
    intro ht
    obtain ⟨xt, e1, e2⟩ := ih fun r hr => ht r (List.mem_cons_of_mem _ hr)
    obtain ⟨g1, g2, g3⟩ := g
    obtain ⟨r1, r2⟩ := r
    obtain ⟨x1, x2, x3⟩ := x
    cases r1 with
    | none => have := ht _ List.mem_cons_self; cases this
    | some q =>
      simp only [rowK, rowU, Option.map_some] at g1 g2
      subst g1 g2
      exact ⟨(q.1, q.2, x3) :: xt, by rw [List.map_cons, ← e1], .cons ⟨rfl, g3⟩ e2⟩
section
variable {X : Cx} {pins : List (Addr × Obj)} {σ : L2.St} {H : Hp} {s : Shared} {a b : Addr} {A : Around} {E : Value → Shared → Prop} {rs : List NRow} {ks : List Key}
theorem has_tup {h : Heap} {xt : List TRow} {P : Program} {w : World} (hs : Has (nk P w) h a (xt.map backT)) : h.DictOfH (tupleKind (mixKind P w)) a xt := by
  obtain ⟨⟨o, es, ep, h1, h2, h3, h4⟩, h5, h6⟩ := hs
  refine ⟨o, es, ep, h1, h2, h3, by rw [h4, List.map_map]; rfl, fun x hx => ?_, ?_⟩
  · obtain ⟨c, e, q⟩ := h5 (backT x) (List.mem_map.mpr ⟨x, hx, rfl⟩)
    cases e
    exact q
  · rw [List.map_map] at h6
    refine List.Pairwise.imp (fun {a b} q e => q ?_) (List.pairwise_map.mp h6) |> List.pairwise_map.mpr
    show some a.1 = some b.1
    rw [e]
theorem tup_has {h : Heap} {xt : List TRow} {P : Program} {w : World} (hs : h.DictOfH (tupleKind (mixKind P w)) a xt) : Has (nk P w) h a (xt.map backT) := by
  obtain ⟨o, es, ep, h1, h2, h3, h4, h5, h6⟩ := hs
  refine ⟨⟨o, es, ep, h1, h2, h3, by rw [h4, List.map_map]; rfl⟩, fun r hr => ?_, ?_⟩
  · obtain ⟨x, hx, rfl⟩ := List.mem_map.mp hr
    exact ⟨x.2.1, rfl, h5 x hx⟩
  · rw [List.map_map]
    exact List.pairwise_map.mpr ((List.pairwise_map.mp h6).imp fun {a b} q e => q (Option.some.inj e))
theorem drop_pair {ks : List Key} {rs : List NRow} {xt : List TRow} (h : Paired (fun (r : NRow) (x : TRow) => r.1 = some (x.1, x.2.1) ∧ RelV r.2 x.2.2) rs xt) : Paired RawR (dropN rs (some ks)) ((DT.dropH xt ks).map backT) := by
  unfold dropN DT.dropH
  induction h with
  | nil => exact .nil
  | @cons r x rs xt g t ih =>
    obtain ⟨g1, g2⟩ := g
    by_cases c : x.1 = ks
    · rw [List.filter_cons_of_neg (by rw [g1]; simp [rowK, c]), List.filter_cons_of_neg (by simp [c])]
      exact ih
    · rw [List.filter_cons_of_pos (by rw [g1]; simp [rowK, c]), List.filter_cons_of_pos (by simp [c]), List.map_cons]
      exact .cons ⟨by rw [g1]; rfl, by rw [g1]; rfl, g2⟩ ih
theorem atKey_look {xt : List TRow} {ks : List Key} : look (xt.map backT) (some ks) = (atKey xt ks).map (·.2) := by
  unfold look atKey
  induction xt with
  | nil => rfl
  | cons x xt ih =>
    rw [List.map_cons]
    by_cases c : x.1 = ks
    · rw [List.find?_cons_of_pos (by simp [c]), List.find?_cons_of_pos (by simp [c])]
      rfl
    · rw [List.find?_cons_of_neg (by simp [c]), List.find?_cons_of_neg (by simp [c])]
      exact ih
theorem nd_pop {r : Value} {z : V} {Q : Value → Shared → Prop} (hu : A.units + 1 < cLine) (I : Inv X pins σ H s) (e : H a = some (NDo X.prog X.w a rs)) (h : RowsOk X.K H rs) (ht : AllT rs) (hq : SqT X.K H b (ks.map kV)) (rz : RelV z r)
    (h1 : ∀ v w', lookN rs (some ks) = some v → RelV v w' → ∀ s', Inv X pins σ (upd H a (NDo X.prog X.w a (dropN rs (some ks)))) s' → Q w' s') (h2 : lookN rs (some ks) = none → ∀ s', Inv X pins σ H s' → Q r s') :
    wpAny (model X.prog X.w) A (call (.builtin "dict.pop") [.ref a, .ref b, r]) Q E s := by
  obtain ⟨g1, g2, xs, hx, hs⟩ := nd_has I e h
  obtain ⟨xt, rfl, hp⟩ := rows_tup hx ht
  have hd := has_tup hs
  have hl : xt.length ≤ sizeLine := by rw [← Paired.length hp]; exact g2
  refine call_meetsIn PySem.F.slot_dict_pop hs.typeIs PySem.F.entry_dict_pop (PySem.F.args_dict_pop_3 _ _ _) (DT.meetsPop (knd := tupleKind (mixKind X.prog X.w)) (k := ks) r g1) ⟨xt, tupleKind_room_in1 hu, tup_is I hq, hd, hl, fun hn tk => ?_, fun p hp' h' tk dd' sb => ?_⟩
  · rcases look_N (some ks) hx with ⟨l1, l2⟩ | ⟨v, w', l1, l2, l3⟩
    · exact h2 l1 _ (I.tok tk)
    · rw [atKey_look, hn] at l2
      cases l2
  · rcases look_N (some ks) hx with ⟨l1, l2⟩ | ⟨v, w', l1, l2, l3⟩
    · rw [atKey_look, hp'] at l2
      cases l2
    · rw [atKey_look, hp'] at l2
      cases l2
      refine h1 v p.2 l1 l3 _ ?_
      have dl : (dropN rs (some ks)).length ≤ sizeLine := Nat.le_trans (List.length_filter_le _ _) g2
      exact nd_write I e g1 dl (drop_pair hp) (tup_has dd') sb
variable {o e f : Expr} {apos cpos : Pos} {td ty tx : TE}
def tNPop (X : Cx) (td ty tx : TE) : TE := fun σ H Q => td σ H fun x H1 => ∃ a rs, x = .ref a ∧ H1 a = some (NDo X.prog X.w a rs) ∧ ty σ H1 fun y H2 => tx σ H2 fun z H3 => ∃ (rs : List NRow) (ks : List Key) (b : Addr),
  H3 a = some (NDo X.prog X.w a rs) ∧ RowsOk X.K H3 rs ∧ AllT rs ∧ y = .ref b ∧ SqT X.K H3 b (ks.map kV) ∧ (∀ v, lookN rs (some ks) = some v → Q v (upd H3 a (NDo X.prog X.w a (dropN rs (some ks))))) ∧ (lookN rs (some ks) = none → Q z H3)
theorem pe_npop (hu : X.A.units + 1 < cLine) (ho : PE X o td) (he : PE X e ty) (hf : PE X f tx) (m : M2 X o "pop" apos e f cpos) : PE X (.Call (.Attribute o "pop" apos) [e, f] [] cpos) (tNPop X td ty tx) := by
  refine ⟨fun pins s σ H Q I h => ?_⟩
  refine wpAny_Call_method m.base m.few m.line PySem.F.plainAttrs_dict PySem.F.slot_dict_pop PySem.F.type_dict_pop (thn (ho.run pins s σ H _ I h) fun u s1 ⟨x, H1, I1, rx, a, rs0, ex, d, q1⟩ => ?_)
  subst ex
  obtain rfl : u = Value.ref a := rx
  obtain ⟨t1, t2⟩ := isN_at I1 d
  refine ⟨t1, t2, ?_⟩
  rw [m.trees]
  refine Calls.callWith_builtin rfl (Calls.evalArgs_plain (Calls.spliced_cons (thn (he.run pins s1 σ H1 _ I1 q1) fun iv s2 ⟨y, H2, I2, ry, q2⟩ =>
    Calls.spliced_cons (thn (hf.run pins s2 σ H2 _ I2 q2) fun fv s3 ⟨z, H3, I3, rz, rs, ks, b, e1, e2, e3, e4, e6, q3, q4⟩ => Calls.spliced_nil ?_))))
  subst e4
  obtain rfl : iv = Value.ref b := ry
  exact nd_pop hu I3 e1 e2 e3 e6 rz (fun v w' hv rw' s4 I4 => ⟨v, _, I4, rw', q3 v hv⟩) fun hn s4 I4 => ⟨z, _, I4, rz, q4 hn⟩
end
end ND
namespace DL
open PySem PySem.Spec PyProof.Rows L2 ND
def ndrop (kvs : List (NKey × W)) (k : NKey) : List (NKey × W) := kvs.filter fun r => !decide (r.1 = k)
theorem NCell.drop {K : PySem.W.Frag} {Hr : Hp} (k : NKey) {rs : List NRow} {kvs : List (NKey × W)} (h : NCell K Hr rs kvs) : NCell K Hr (dropN rs k) (ndrop kvs k) := by
  unfold dropN ndrop
  induction h with
  | nil => exact .nil
  | @cons r x rs kvs g t ih =>
    obtain ⟨g1, g2⟩ := g
    by_cases c : x.1 = k
    · rw [List.filter_cons_of_neg (by rw [g1]; simp [c]), List.filter_cons_of_neg (by simp [c])]
      exact ih
    · rw [List.filter_cons_of_pos (by rw [g1]; simp [c]), List.filter_cons_of_pos (by simp [c])]
      exact .cons ⟨g1, g2⟩ ih
theorem allT_of {K : PySem.W.Frag} {Hr : Hp} {rs : List NRow} {kvs : List (NKey × W)} (h : NCell K Hr rs kvs) : (∀ r ∈ kvs, r.1.isSome = true) → AllT rs := by
  induction h with
  | nil => exact fun _ r hr => nomatch hr
  | @cons r x rs kvs g t ih =>
    intro hk y hy
    rcases List.mem_cons.mp hy with rfl | hy
    · have h1 := hk x List.mem_cons_self
      rw [← g.1] at h1
      cases hq : y.1 with
      | none => rw [hq] at h1; cases h1
      | some q => rfl
    · exact ih (fun r hr => hk r (List.mem_cons_of_mem _ hr)) y hy
section
variable {X : Cx} {τ : Tau} {O : Own} {P : W → Own → Prop} {D : DEn} {pos tpos apos cpos : Pos} {o e f value : Expr} {w : W} {x : Str}
/-- d.pop(k, x), k a tuple, all keys tuples -/
theorem de_npop (hu : X.A.units + 1 < cLine) (h : DE X τ O o fun w1 O1 => ∃ (p : Addr) (j : Nat) (kvs : List (NKey × W)), w1 = .r (.ref p) ∧ O1[j]? = some (p, .x (NXc X.prog X.w kvs)) ∧ DE X τ O1 e fun w2 O2 => DE X τ O2 f fun w3 O3 => ∃ (j2 : Nat) (kvs2 : List (NKey × W)) (ks : List Key),
      O3[j2]? = some (p, .x (NXc X.prog X.w kvs2)) ∧ w2 = .d (nkD (some ks)) ∧ (∀ r ∈ kvs2, r.1.isSome = true) ∧ (∀ w, nget kvs2 (some ks) = some w → P w (O3.set j2 (p, .x (NXc X.prog X.w (ndrop kvs2 (some ks)))))) ∧ (nget kvs2 (some ks) = none → P w3 O3))
    (m : M2 X o "pop" apos e f cpos) : DE X τ O (.Call (.Attribute o "pop" apos) [e, f] [] cpos) P := by
  refine ⟨?_⟩
  intro σ Hr H Q hE hS hQ pins s I
  refine (pe_npop hu pe_te pe_te pe_te m).run pins s σ H Q I ?_
  refine h σ Hr H _ hE hS fun x H1 ⟨w1, O1, Hr1, ⟨p, j, kvs, hw, hj, h1⟩, e1, s1, k1⟩ => ?_
  subst hw
  cases k1
  obtain ⟨rs1, v1, -⟩ := s1.cell hj
  refine ⟨p, rs1, rfl, v1, ?_⟩
  refine h1 σ Hr1 H1 _ (hE.mono e1) s1 fun y H2 ⟨w2, O2, Hr2, h2, e2, s2, k2⟩ => ?_
  refine h2 σ Hr2 H2 _ (hE.mono (e1.trans e2)) s2 fun z H3 ⟨w3, O3, Hr3, ⟨j2, kvs2, ks, hj2, q2, hk, hP1, hP2⟩, e3, s3, k3⟩ => ?_
  subst q2
  obtain ⟨rs, u1, u2, u3⟩ := s3.cell hj2
  obtain ⟨q, g1, g2, g3⟩ := nkD_v (k2.mono e3)
  cases q with
  | none => cases g2
  | some q =>
    obtain ⟨q1, q2⟩ := q
    have e4 : q1 = ks := Option.some.inj g2
    subst e4
    refine ⟨rs, q1, q2, u1, rowsOk_mono s3.ex u2, allT_of u3 hk, g1, rowOk_mono s3.ex g3 q1 q2 rfl, fun v hv => ?_, fun hn => ?_⟩
    · rcases nget_rows (some q1) u3 with ⟨a1, a2⟩ | ⟨v', w', a1, a2, a3⟩
      · rw [hv] at a1; cases a1
      · rw [hv] at a1
        cases a1
        refine hQ _ _ ⟨_, _, Hr3, hP1 _ a2, (e1.trans e2).trans e3, s3.put hj2 (c' := .x (NXc X.prog X.w _)) ⟨dropN rs (some q1), upd_same, fun r hr => u2 r (List.mem_filter.mp hr).1, u3.drop (some q1)⟩, a3⟩
    · rcases nget_rows (some q1) u3 with ⟨a1, a2⟩ | ⟨v', w', a1, a2, a3⟩
      · exact hQ _ _ ⟨_, _, Hr3, hP2 a2, (e1.trans e2).trans e3, s3, k3⟩
      · rw [hn] at a1; cases a1
/-- d.pop(k), k there -/
theorem de_dpop1 (h : DE X τ O o fun w1 O1 => ∃ (p : Addr) (j : Nat) (kvs0 : List (Key × PyData)), w1 = .r (.ref p) ∧ O1[j]? = some (p, .k kvs0) ∧ DE X τ O1 e fun w2 O2 => ∃ (j2 : Nat) (kvs : List (Key × PyData)) (k : Key) (d : PyData), O2[j2]? = some (p, .k kvs) ∧ w2 = .d (keyD k) ∧
      valD kvs k = some d ∧ P (.d d) (O2.set j2 (p, .k (dropD kvs k))))
    (m : M1 X o "pop" apos e cpos) : DE X τ O (.Call (.Attribute o "pop" apos) [e] [] cpos) P := by
  refine ⟨?_⟩
  intro σ Hr H Q hE hS hQ pins s I
  refine (pe_dpop1 pe_te pe_te m).run pins s σ H Q I ?_
  refine h σ Hr H _ hE hS fun x H1 ⟨w1, O1, Hr1, ⟨p, j, kvs0, hw, hj, h1⟩, e1, s1, k1⟩ => ?_
  subst hw
  cases k1
  obtain ⟨vs0, v1, -⟩ := s1.cell hj
  refine ⟨p, rfl, .inl ⟨_, .inl v1⟩, ?_⟩
  refine h1 σ Hr1 H1 _ (hE.mono e1) s1 fun y H2 ⟨w2, O2, Hr2, ⟨j2, kvs, k, d, hj2, q2, hv, hP⟩, e2, s2, k2⟩ => ?_
  subst q2
  obtain ⟨vs, u1, u2⟩ := s2.cell hj2
  rcases u2.val k with ⟨z1, z2⟩ | ⟨v', d', z1, z2, z3⟩
  · rw [hv] at z2; cases z2
  · rw [hv] at z2
    cases z2
    exact ⟨vs, k, v', u1, keyD_v k2, z1, hQ _ _ ⟨_, _, Hr2, hP, e1.trans e2, s2.put hj2 (c' := .k (dropD kvs k)) ⟨dropK vs k, upd_same, kd_drop k u2⟩, z3⟩⟩
/-- sorted(d), whole-number keys; the list is new -/
theorem c_sortedKI {p : Addr} (j : Nat) {kvs : List (Key × PyData)} {ks : List Int} (hj : O[j]? = some (p, .k kvs)) (hk : kvs.map (·.1) = ks.map Sum.inl) (hl : ks.length < 64) (h : ∀ (ys : List Int) (q : Addr), ys.Perm ks → ys.Pairwise (· ≤ ·) → P (.r (.ref q)) ((q, .l (ys.map .int)) :: O)) (hc : X.calm = true := by rfl) : CallD X (.builtin "sorted") [.r (.ref p)] O P :=
  calld_of (call_sortedDI hc) fun vs Hr H Q hS h1 hQ => by
    cases h1 with
    | cons k1 k2 =>
      cases k2
      cases k1
      obtain ⟨us, a, b⟩ := hS.cell hj
      refine ⟨p, us, ks, rfl, .inl a, by rw [kd_keys b, hk], hl, fun ys q hp hs hq => ?_⟩
      have this : ∀ (ys : List Int) (H : Hp), DvAll X.K H (ys.map V.int) (ys.map PyData.int) := by
        intro ys H
        induction ys with
        | nil => exact .nil
        | cons y ys ih => exact .cons (.int y) ih
      exact hQ _ _ ⟨_, _, Hr, h ys q hp hs, Same.refl _, hS.newOwn hq ⟨_, upd_same, this ys Hr⟩, rfl⟩
/-- o.f += e, whole numbers -/
theorem ds_augF {C : Addr} {x : Str} (c : Cls X.K C) (na : NoAttr X.K C x) (h : DE X τ O o fun w1 O1 => ∃ (q : Addr) (j : Nat) (dx : Addr) (fs : List (Str × W)) (n : Int), w1 = .r (.ref q) ∧ O1[j]? = some (q, .x (insC C dx fs)) ∧ fs.lookup x = some (.d (.int n)) ∧ DE X τ O1 value fun w2 O2 => ∃ m : Int, w2 = .d (.int m) ∧
      O2[j]? = some (q, .x (insC C dx fs)) ∧ fs.length < 1000 ∧ D.nx τ (O2.set j (q, .x (insC C dx (putW x (.d (.int (n + m))) fs))))) : DS X τ O (.AugAssign (.Attribute o x tpos) .Add value pos) D := by
  refine ⟨?_⟩
  intro σ Hr H E hE hS hD pins s I
  refine (ps_fldaug pe_te pe_te in_add).run pins s σ H E I ?_
  refine h σ Hr H _ hE hS fun v H1 ⟨w1, O1, Hr1, ⟨q, j, dx, fs, n, hw, hj, hl, h1⟩, e1, s1, k1⟩ => ?_
  subst hw
  cases k1
  obtain ⟨vs, a, b⟩ := s1.cell hj
  rcases b.look x with ⟨b1, b2⟩ | ⟨v, w', b1, b2, b3⟩
  · rw [hl] at b2; cases b2
  rw [hl] at b2
  cases b2
  cases b3
  refine ⟨q, C, dx, vs, _, rfl, a, c, na, b1, ?_⟩
  refine h1 σ Hr1 H1 _ (hE.mono e1) s1 fun u H2 ⟨w2, O2, Hr2, ⟨m, hw2, hj2, hz, hp⟩, e2, s2, k2⟩ => ?_
  subst hw2
  cases k2
  obtain ⟨vs2, a2, b2⟩ := s2.cell hj2
  refine ⟨n, m, rfl, rfl, dx, vs2, a2, by rw [b2.len]; exact hz, ?_⟩
  exact hD.nx _ _ ⟨τ, _, Hr2, hp, e1.trans e2, s2.put hj2 (c' := .x (insC C dx _)) ⟨_, upd_same, b2.put (.int _)⟩, hE.mono (e1.trans e2)⟩
end
end DL

set_option Elab.async false
set_option linter.all false
set_option maxRecDepth 100000
set_option maxHeartbeats 2000000
/-! sorted(d) of a dict whose keys are tuples of whole numbers -/
namespace SM
open PySem PySem.Spec PyProof.Rows L2 DL PySem.W PySem.Calls ND
section
variable {X : Cx}
theorem vals_rows : ∀ rs : List NRow, Vals (rs.map fun r => rowV r.1) (rs.map fun r => rowU r.1)
  | [] => .nil
  | (none, _) :: rs => .cons rfl (vals_rows rs)
  | (some _, _) :: rs => .cons rfl (vals_rows rs)
theorem reads_zip {s : Shared} : ∀ {its : List Value} {xs : List V} {bs : List PB}, xs.length = bs.length → EachIs (fun v (b : V × PyData) => ∃ as, Reads s.heap v b.2 as) its (xs.zip (bs.map encP)) → EachIs (fun v b => ∃ as, Reads s.heap v (encP b) as) its bs := by
  intro its xs
  induction xs generalizing its with
  | nil =>
    intro bs hl h
    cases bs with
    | nil => cases h; exact .nil
    | cons b bs => simp at hl
  | cons x xs ih =>
    intro bs hl h
    cases bs with
    | nil => simp at hl
    | cons b bs =>
      cases h with
      | cons h1 h2 => exact .cons h1 (ih (by simpa using hl) h2)
theorem keys_zip {hh : Heap} {bs : List PB} {k : Nat} (hk : ∀ b ∈ bs, b.1.length = k) : ∀ {its : List Value} {xs : List V} {cs : List PB}, xs.length = cs.length → (∀ c ∈ cs, c ∈ bs) → EachIs (fun v b => ∃ as, Reads hh v (encP b) as) its cs → EachIs (fun v (b : V × PB) => (pfKind hh bs).keyOf v = some (keyP b.2)) its (xs.zip cs) := by
  intro its xs
  induction xs generalizing its with
  | nil =>
    intro cs hl _ h
    cases cs with
    | nil => cases h; exact .nil
    | cons b bs => simp at hl
  | cons x xs ih =>
    intro cs hl hm h
    cases cs with
    | nil => simp at hl
    | cons c cs =>
      cases h with
      | cons h1 h2 =>
        obtain ⟨as, h1⟩ := h1
        exact .cons (pfKind_some hk (hm c (by simp)) h1) (ih (by simpa using hl) (fun c hc => hm c (by simp [hc])) h2)
theorem raw_vals {rs : List NRow} {xs : List (Row NKey)} (h : Paired RawR rs xs) : xs.map (·.2.1) = rs.map fun r => rowU r.1 := by
  induction h with
  | nil => rfl
  | cons g t ih => rw [List.map_cons, List.map_cons, ih, g.2.1]
theorem cr_sortN (hc : X.calm = true) : CallR X (.builtin "sorted") (fun vs H Q => ∃ (a : Addr) (rs : List NRow) (bs : List PB) (k : Nat), vs = [V.ref a] ∧ H a = some (NDo X.prog X.w a rs) ∧ RowsOk X.K H rs ∧ DpAll X.K H (rs.map fun r => rowV r.1) (bs.map encP) ∧ (∀ b ∈ bs, b.1.length = k) ∧ 0 < k ∧ (bs.map (·.1)).Nodup ∧ (∀ b ∈ bs, alike (encP b) (encP b) = true) ∧ (∀ b ∈ bs, X.A.units + 2 + (encP b).depth < cLine) ∧
    ∀ (ys : List V) (p : Addr), (ys.zip (bs.mergeSort leP)).Perm ((rs.map fun r => rowV r.1).zip bs) → ys.length = (bs.mergeSort leP).length → H p = none → Q (.ref p) (upd H p (.lst ys))) := by
  intro pins s σ H vs us Q I r h
  obtain ⟨a, rs, bs, k, rfl, ha, hro, hd, hk, h0, nd, hal, hu, q⟩ := h
  rw [Vals.ref1 r]
  obtain ⟨g1, g2, xs, hx, hs⟩ := nd_has I ha hro
  obtain ⟨⟨o, es, ep, ho, hxd, hdat, he⟩, hky, hnd⟩ := id hs
  have hel : es.size = xs.length := by rw [← Array.length_toList, he, List.length_map]
  have hrx : rs.length = xs.length := Paired.length hx
  refine Calls.call_function_entry PyProof.Rows.kind_sorted PyProof.Rows.plain_sorted PyProof.Rows.entry_sorted (PyProof.Rows.args_sorted1 _) ?_
  unfold Builtin.«sorted»
  refine wpAny_bind (m := checkCount "sorted" 1 1 _) (wpAny_pure ?_)
  refine wpAny_bind (PySem.W.kdu_collect (A := X.A.in1) (L2.kdl_raw g1 hxd hdat) (I.ok.hd hc) ho (by omega) fun h' tk acc hkp hacc => ?_)
  have ea : acc.toList = rs.map fun r => rowU r.1 := by
    rw [← raw_vals hx]
    have hl : acc.toList.length = xs.length := by rw [Array.length_toList, hacc.1]; exact hel
    apply List.ext_getElem?
    intro j
    rw [List.getElem?_map]
    cases hj : acc.toList[j]? with
    | none =>
      have h1 := List.getElem?_eq_none_iff.mp hj
      rw [List.getElem?_eq_none (by omega)]
      rfl
    | some v =>
      obtain ⟨en, hen, hv⟩ := hacc.2 j v (by rw [← Array.getElem?_toList]; exact hj)
      have qe : es.toList[j]? = (xs.map (ent (nk X.prog X.w)))[j]? := by rw [he]
      rw [Array.getElem?_toList, hen, List.getElem?_map] at qe
      cases hb : xs[j]? with
      | none => rw [hb] at qe; cases qe
      | some y =>
        rw [hb] at qe
        have := Option.some.inj qe
        rw [hv, this]
        rfl
  have I1 : Inv X pins σ H { s with heap := h', toks := tk } := I.kept hkp
  have rv : Vals (rs.map fun r => rowV r.1) acc.toList := by rw [ea]; exact vals_rows rs
  have hlb : (rs.map fun r => rowV r.1).length = bs.length := by rw [dpAll_len hd, List.length_map]
  have hal2 : acc.toList.length ≤ sizeLine := by rw [ea, List.length_map]; exact g2
  generalize acc.toList = its at rv hal2
  clear ea
  generalize hxv : (rs.map fun r => rowV r.1) = xv at hd hlb rv q
  refine wpAny_bind (wpAny_newList ?_ hal2)
  have hoL : (h'.push (seqObj "list" its.toArray 0)).get? h'.objs.size = some (seqObj "list" its.toArray 0) := Heap.get?_push_size _ rfl
  show wpAny _ _ _ _ _ { s with heap := h'.push (seqObj "list" its.toArray 0), toks := tk }
  have hbl : (xv.zip bs).length = xv.length := by rw [List.length_zip, hlb]; omega
  have e2 : (xv.zip bs).map (fun b => b.2) = bs := List.map_snd_zip (by omega)
  have em : ((xv.zip bs).mergeSort (sortLe (listOrd itemOrd) false fun b : V × PB => keyP b.2)).map (fun b => b.2) = bs.mergeSort leP := by
    have q := PySem.W.sort_maps (r := sortLe (listOrd itemOrd) false fun b : V × PB => keyP b.2) (s := leP) (fun b : V × PB => b.2) (l := xv.zip bs) (fun _ _ _ _ => rfl)
    rw [e2] at q
    exact q
  have er : EachIs (fun v b => ∃ as, Reads h' v (encP b) as) its bs := reads_zip (s := { s with heap := h', toks := tk }) hlb (each_reads I1 rv hd)
  have er' : EachIs (fun v b => ∃ as, Reads (sortingHeap (h'.push (seqObj "list" its.toArray 0)) h'.objs.size its) v (encP b) as) its bs := er.mono fun _ _ ⟨as, r⟩ => ⟨as, PyProof.Rows.Reads.keeps (fun b e => fun z => sortingHeap_old (Nat.ne_of_lt (Heap.lt_size z)) (Heap.get?_push_of_some _ z)) r⟩
  have ekey := keys_zip (bs := bs) hk hlb (fun _ h => h) er'
  have eR := each_zipG (R := fun v b => RelV b v) rv hlb
  have eo := sortVals_each (κ := pfKind (sortingHeap (h'.push (seqObj "list" its.toArray 0)) h'.objs.size its) bs) (rev := false) (fun b : V × PB => keyP b.2) eR ekey
  refine wpAny_bind (wpAny_holding (wpAny_call_entry PyProof.Rows.slot_list_sort ⟨_, hoL, rfl⟩ PyProof.Rows.entry_list_sort
    (list_sort_vals (s := { s with heap := h'.push (seqObj "list" its.toArray 0), toks := tk }) hoL (sortsAt_pfx (s := { s with heap := sortingHeap (h'.push (seqObj "list" its.toArray 0)) h'.objs.size its, toks := tk }) er' hk h0 nd hal (fun b hb => hu b hb)) hal2 ⟨_, rfl, ?_⟩)
    (PyProof.Rows.args_list_sort _)))
  generalize hout : sortVals (pfKind (sortingHeap (h'.push (seqObj "list" its.toArray 0)) h'.objs.size its) bs) false its its = out at eo
  have eo' : EachIs (fun v (b : V × PB) => RelV b.1 v) out ((xv.zip bs).mergeSort (sortLe (listOrd itemOrd) false fun b : V × PB => keyP b.2)) := eo
  obtain ⟨e', he'⟩ := PyProof.Rows.sortedHeap_at (vs := its) (out := out.toArray) hoL
  have hp := vals_outG eo'
  have hyl : (((xv.zip bs).mergeSort (sortLe (listOrd itemOrd) false fun b : V × PB => keyP b.2)).map (·.1)).length ≤ sizeLine := by
    rw [List.length_map, List.length_mergeSort, hbl, ← hxv, List.length_map]
    exact g2
  refine wpAny_pure ⟨_, rfl, .ref h'.objs.size, upd H h'.objs.size (.lst (((xv.zip bs).mergeSort (sortLe (listOrd itemOrd) false fun b : V × PB => keyP b.2)).map (·.1))), I1.laid (t' := tk) (fun b u e => ?_) (Nat.le_refl _)
    (show ObjOk X.prog X.w _ _ _ (.lst _) from ⟨hyl, out, e', hp, he'⟩), rfl, ?_⟩
  · have hb : b < h'.objs.size := Heap.lt_size e
    rw [PyProof.Rows.sortedHeap_old (Nat.ne_of_lt hb) (by rw [size_push']; exact Nat.lt_succ_of_lt hb)]
    exact Heap.get?_push_of_some _ e
  refine q _ _ ?_ ?_ (I1.hok.fresh (Nat.le_refl _))
  · rw [← em, zip_mapsG]
    exact List.mergeSort_perm _ _
  · rw [← em, List.length_map, List.length_map]
end
end SM
namespace DL
open PySem PySem.Spec PyProof.Rows L2 ND SM
def dot2 (d : Int × Int) : PB := ([d.1, d.2], [])
def nk2 (d : Int × Int) : NKey := some [.inl d.1, .inl d.2]
theorem dv_rows {K : PySem.W.Frag} {Hr : Hp} {rs : List NRow} {kvs : List (NKey × W)} (h : NCell K Hr rs kvs) : ∀ (ds : List (Int × Int)), RowsOk K Hr rs → kvs.map (·.1) = ds.map nk2 → DvAll K Hr (rs.map fun r => rowV r.1) ((ds.map dot2).map encP) := by
  induction h with
  | nil =>
    intro ds _ e
    cases ds with
    | nil => exact .nil
    | cons d ds => cases e
  | @cons r x rs kvs g t ih =>
    intro ds hr e
    cases ds with
    | nil => cases e
    | cons d ds =>
      rw [List.map_cons, List.map_cons] at e
      obtain ⟨e1, e2⟩ := List.cons.inj e
      refine .cons ?_ (ih ds (fun y hy => hr y (List.mem_cons_of_mem _ hy)) e2)
      obtain ⟨g1, g2⟩ := g
      obtain ⟨q, v⟩ := r
      have hq : rowK q = some [.inl d.1, .inl d.2] := g1.trans e1
      cases q with
      | none => cases hq
      | some q =>
        obtain ⟨q1, q2⟩ := q
        have e3 : q1 = [.inl d.1, .inl d.2] := Option.some.inj hq
        subst e3
        have hro := hr _ List.mem_cons_self _ _ rfl
        exact .tup hro (.cons (.int _) (.cons (.int _) .nil))
section
variable {X : Cx} {O : Own} {P : W → Own → Prop}
/-- sorted(d), keys pairs of whole numbers; the list is new -/
theorem c_sortedN {p : Addr} (j : Nat) {kvs : List (NKey × W)} {ds : List (Int × Int)} (hj : O[j]? = some (p, .x (NXc X.prog X.w kvs))) (hk : kvs.map (·.1) = ds.map nk2) (nd : ds.Nodup) (hu : X.A.units + 5 < cLine) (h : ∀ q, P (.r (.ref q)) ((q, .l (((ds.map dot2).mergeSort leP).map encP)) :: O)) (hc : X.calm = true := by rfl) : CallD X (.builtin "sorted") [.r (.ref p)] O P :=
  calld_of (cr_sortN hc) fun vs Hr H Q hS h1 hQ => by
    cases h1 with
    | cons k1 k2 =>
      cases k2
      cases k1
      obtain ⟨rs, u1, u2, u3⟩ := hS.cell hj
      have hdv := dv_rows u3 ds u2 hk
      refine ⟨p, rs, ds.map dot2, 2, rfl, u1, rowsOk_mono hS.ex u2, DvAll.dp (dvAll_mono hS.ex hdv), fun b hb => ?_, by decide, ?_, fun b hb => ?_, fun b hb => ?_, fun ys p hp hl hn => ?_⟩
      · obtain ⟨d, _, rfl⟩ := List.mem_map.mp hb
        rfl
      · rw [List.map_map]
        refine List.pairwise_map.mpr (List.Pairwise.imp (fun {a b} q e => q ?_) nd)
        have e' : [a.1, a.2] = [b.1, b.2] := e
        simp only [List.cons.injEq, and_true] at e'
        exact Prod.ext e'.1 e'.2
      · obtain ⟨d, _, rfl⟩ := List.mem_map.mp hb
        rfl
      · obtain ⟨d, _, rfl⟩ := List.mem_map.mp hb
        have : (encP (dot2 d)).depth ≤ 2 := by simp [encP, dot2, PyData.depth, PyData.depthAll]
        omega
      · exact hQ _ _ ⟨_, _, Hr, h p, Same.refl _, hS.newOwn hn ⟨_, upd_same, dvAll_permP hl fun b hb => dvAll_zipP hdv b (hp.mem_iff.mp hb)⟩, rfl⟩
end
end DL

set_option Elab.async false
set_option linter.all false
set_option maxRecDepth 100000
set_option maxHeartbeats 2000000
/-! members, sums -/
namespace WL
open PySem PySem.Spec PyProof.Rows L2 DL SX PK SM VO
def keyV : PyData → Key
  | .int i => .inl i
  | .str z => .inr z
  | _ => .inl 0
theorem keyV_D {v : PyData} (h : isV v) : keyD (keyV v) = v := by
  rcases h with ⟨i, rfl⟩ | ⟨z, rfl, _⟩ <;> rfl
theorem v_eqv {a b : PyData} (ha : isV a) (hb : isV b) : PyData.eqv a b = decide (keyV a = keyV b) := by
  rcases ha with ⟨i, rfl⟩ | ⟨z, rfl, _⟩ <;> rcases hb with ⟨j, rfl⟩ | ⟨y, rfl, _⟩
  · rw [Bool.eq_iff_iff]
    simp [keyV, PyData.eqv]
  · simp [keyV, PyData.eqv]
  · simp [keyV, PyData.eqv]
  · rw [Bool.eq_iff_iff]
    simp [keyV, PyData.eqv]
def argV (e : Ev) : PyData := opArg (evD e)
theorem isAdd {key : Str} {o : Op} (h : isOp "add" key o = true) : ∃ v, o = .add key v := by
  cases o with
  | add k v =>
    simp only [isOp, Bool.and_eq_true, decide_eq_true_iff] at h
    exact ⟨v, by rw [h.2]⟩
  | ack => simp [isOp] at h
  | retire => simp [isOp] at h
  | _ =>
    simp only [isOp, Bool.and_eq_true, decide_eq_true_iff] at h
    exact absurd h.1 (by decide)
theorem isRem {key : Str} {o : Op} (h : isOp "remove" key o = true) : ∃ v, o = .remove key v := by
  cases o with
  | remove k v =>
    simp only [isOp, Bool.and_eq_true, decide_eq_true_iff] at h
    exact ⟨v, by rw [h.2]⟩
  | ack => simp [isOp] at h
  | retire => simp [isOp] at h
  | _ =>
    simp only [isOp, Bool.and_eq_true, decide_eq_true_iff] at h
    exact absurd h.1 (by decide)
theorem isInc {key : Str} {o : Op} (h : isOp "inc" key o = true) : ∃ i, o = .inc key i := by
  cases o with
  | inc k v =>
    simp only [isOp, Bool.and_eq_true, decide_eq_true_iff] at h
    exact ⟨v, by rw [h.2]⟩
  | ack => simp [isOp] at h
  | retire => simp [isOp] at h
  | _ =>
    simp only [isOp, Bool.and_eq_true, decide_eq_true_iff] at h
    exact absurd h.1 (by decide)
theorem rowsE_is {es : List Ev} {wd key : Str} {e : Ev} (h : e ∈ rowsE es wd key) : e ∈ es ∧ isOp wd key e.op = true := by
  unfold rowsE at h
  obtain ⟨h1, h2⟩ := List.mem_filter.mp h
  exact ⟨h1, by simpa using h2⟩
theorem argV_add {es : List Ev} {key : Str} {e : Ev} (h : e ∈ rowsE es "add" key) (ok : ∀ e ∈ es, EvOk e) : isV (argV e) ∧ evD e = .tuple [.int e.site, .int e.n, vec e.seen, .int e.height, .tuple [.str "add", .str key, argV e]] := by
  obtain ⟨h1, h2⟩ := rowsE_is h
  obtain ⟨v, hv⟩ := isAdd h2
  have ho := (ok e h1).2.2.2.2
  rw [hv] at ho
  have ea : argV e = v := by unfold argV evD; rw [hv]; rfl
  exact ⟨by rw [ea]; exact ho.2, by rw [ea]; unfold evD; rw [hv]; rfl⟩
theorem argV_rem {es : List Ev} {key : Str} {e : Ev} (h : e ∈ rowsE es "remove" key) (ok : ∀ e ∈ es, EvOk e) : isV (argV e) ∧ evD e = .tuple [.int e.site, .int e.n, vec e.seen, .int e.height, .tuple [.str "remove", .str key, argV e]] := by
  obtain ⟨h1, h2⟩ := rowsE_is h
  obtain ⟨v, hv⟩ := isRem h2
  have ho := (ok e h1).2.2.2.2
  rw [hv] at ho
  have ea : argV e = v := by unfold argV evD; rw [hv]; rfl
  exact ⟨by rw [ea]; exact ho.2, by rw [ea]; unfold evD; rw [hv]; rfl⟩
theorem op_add {es : List Ev} {key : Str} {e : Ev} (h : e ∈ rowsE es "add" key) : opD e.op = .tuple [.str "add", .str key, argV e] := by
  obtain ⟨v, hv⟩ := isAdd (rowsE_is h).2
  have ea : argV e = v := by unfold argV evD; rw [hv]; rfl
  rw [ea, hv]
  rfl
theorem op_rem {es : List Ev} {key : Str} {e : Ev} (h : e ∈ rowsE es "remove" key) : opD e.op = .tuple [.str "remove", .str key, argV e] := by
  obtain ⟨v, hv⟩ := isRem (rowsE_is h).2
  have ea : argV e = v := by unfold argV evD; rw [hv]; rfl
  rw [ea, hv]
  rfl
def incOf (e : Ev) : Int := match e.op with
  | .inc _ i => i
  | _ => 0
theorem op_inc {es : List Ev} {key : Str} {e : Ev} (h : e ∈ rowsE es "inc" key) : opD e.op = .tuple [.str "inc", .str key, .int (incOf e)] ∧ evD e = .tuple [.int e.site, .int e.n, vec e.seen, .int e.height, .tuple [.str "inc", .str key, .int (incOf e)]] := by
  obtain ⟨v, hv⟩ := isInc (rowsE_is h).2
  have ea : incOf e = v := by unfold incOf; rw [hv]
  rw [ea]
  exact ⟨by rw [hv]; rfl, by unfold evD; rw [hv]; rfl⟩
/-- what a dict of removes has to tell -/
def sawV (R : List Ev) (k : Key) : List Int := sawAll (R.filter fun e => decide (keyV (argV e) = k))
def RmOk (kvs : List (Key × PyData)) (R : List Ev) : Prop := (∀ k, (valD kvs k).getD (vec zero8) = vec (sawV R k)) ∧ kvs.length ≤ R.length
theorem RmOk.nil : RmOk [] [] := ⟨fun k => rfl, Nat.le_refl _⟩
theorem RmOk.snoc {kvs : List (Key × PyData)} {R : List Ev} {e : Ev} (h : RmOk kvs R) : RmOk (putD kvs (keyV (argV e)) (vec (joinN (sawV R (keyV (argV e))) e.seen))) (R ++ [e]) := by
  refine ⟨fun k => ?_, Nat.le_trans (length_putD _ _ _) (by rw [List.length_append]; exact Nat.succ_le_succ h.2)⟩
  rw [valD_put]
  by_cases q : k = keyV (argV e)
  · subst q
    rw [if_pos rfl]
    unfold sawV sawAll
    rw [List.filter_append, List.foldl_append, List.filter_cons_of_pos (by simp)]
    rfl
  · rw [if_neg q, h.1 k]
    unfold sawV sawAll
    rw [List.filter_append, List.foldl_append, List.filter_cons_of_neg (by simpa using fun z => q z.symm)]
    rfl
def keptP (es : List Ev) (key : Str) : List PyData := ((rowsE es "add" key).filter fun e => !knowsN (sawV (rowsE es "remove" key) (keyV (argV e))) e.site e.n).map argV
def keptL (es : List Ev) (key : Str) : List PyData := ((rowsE es "add" key).filter fun e => decide ((((rowsE es "remove" key).filter fun o => decide (keyV (argV o) = keyV (argV e))).filter fun o => hasE o.seen e).length = 0)).map argV
theorem kept_eq {es : List Ev} (h : ∀ e ∈ es, EvOk e) (key : Str) : keptP es key = keptL es key := by
  unfold keptP keptL
  congr 1
  refine List.filter_congr fun e he => ?_
  unfold sawV
  rw [knows_saw (fun o ho => rowsE_ok h o (List.mem_filter.mp ho).1) (rowsE_ok h e he)]
  cases hq : (((rowsE es "remove" key).filter fun o => decide (keyV (argV o) = keyV (argV e))).filter fun o => hasE o.seen e).length with
  | zero => rfl
  | succ n => simp
theorem keptP_isV {es : List Ev} (h : ∀ e ∈ es, EvOk e) {key : Str} : ∀ d ∈ keptP es key, isV d := fun d hd => by
  unfold keptP at hd
  obtain ⟨e, he, rfl⟩ := List.mem_map.mp hd
  exact (argV_add (List.mem_filter.mp he).1 h).1
theorem keptP_len {es : List Ev} {key : Str} : (keptP es key).length ≤ es.length := by
  unfold keptP
  rw [List.length_map]
  exact Nat.le_trans (List.length_filter_le _ _) rowsE_len
/-! ### values, each once, sorted: another way -/
def addP (acc : List PyData) (d : PyData) : List PyData := if (acc.any fun z => PyData.eqv z d) = true then acc else acc ++ [d]
theorem any_strs (L : List Str) (z : Str) : ((L.map PyData.str).any fun y => PyData.eqv y (.str z)) = decide (z ∈ L) := by
  rw [Bool.eq_iff_iff, List.any_eq_true, decide_eq_true_iff]
  constructor
  · rintro ⟨y, hy, e⟩
    obtain ⟨j, hj, rfl⟩ := List.mem_map.mp hy
    simp [PyData.eqv] at e
    exact e ▸ hj
  · intro h
    exact ⟨_, List.mem_map.mpr ⟨z, h, rfl⟩, by simp [PyData.eqv]⟩
theorem foldP_ints : ∀ (I L : List Int), (I.map PyData.int).foldl addP (L.map .int) = (I.foldl addU L).map .int
  | [], L => rfl
  | i :: I, L => by
    rw [List.map_cons, List.foldl_cons, List.foldl_cons]
    have e : addP (L.map .int) (.int i) = (addU L i).map .int := by
      unfold addP addU
      rw [VO.any_ints]
      by_cases h : i ∈ L
      · rw [if_pos (decide_eq_true h), if_pos h]
      · rw [if_neg (by simpa using h), if_neg h, List.map_append]
        rfl
    rw [e, foldP_ints I]
theorem foldP_strs (A : List Int) : ∀ (S L : List Str), (S.map PyData.str).foldl addP (A.map .int ++ L.map .str) = A.map .int ++ (S.foldl addU L).map .str
  | [], L => rfl
  | i :: S, L => by
    rw [List.map_cons, List.foldl_cons, List.foldl_cons]
    have e : addP (A.map .int ++ L.map .str) (.str i) = A.map .int ++ (addU L i).map .str := by
      unfold addP addU
      have e1 : ((A.map PyData.int).any fun z => PyData.eqv z (.str i)) = false := by
        rw [List.any_eq_false]
        intro z hz
        obtain ⟨j, _, rfl⟩ := List.mem_map.mp hz
        simp [PyData.eqv]
      rw [List.any_append, e1, Bool.false_or, any_strs]
      by_cases h : i ∈ L
      · rw [if_pos (decide_eq_true h), if_pos h]
      · rw [if_neg (by simpa using h), if_neg h, List.map_append, List.append_assoc]
        rfl
    rw [e, foldP_strs A S]
theorem foldU_pair {α : Type} [DecidableEq α] {r : α → α → Prop} : ∀ (xs acc : List α), (acc ++ xs).Pairwise r → (xs.foldl addU acc).Pairwise r
  | [], acc, h => by simpa using h
  | x :: xs, acc, h => by
    rw [List.foldl_cons]
    refine foldU_pair xs _ ?_
    unfold addU
    split
    · exact h.sublist (List.Sublist.append (List.Sublist.refl _) (List.sublist_cons_self x xs))
    · rw [List.append_assoc]
      exact h
theorem uniq_pair {α : Type} [DecidableEq α] {r : α → α → Prop} {xs : List α} (h : xs.Pairwise r) : (uniq xs).Pairwise r := foldU_pair xs [] (by simpa using h)
theorem perm_nodup {α : Type} [DecidableEq α] {l m : List α} (hl : l.Nodup) (hm : m.Nodup) (h : ∀ x, x ∈ l ↔ x ∈ m) : l.Perm m := (List.perm_ext_iff_of_nodup hl hm).mpr h
theorem leI_tr (a b c : Int) (h1 : leI a b = true) (h2 : leI b c = true) : leI a c = true := by
  unfold leI at *
  rw [decide_eq_true_iff] at *
  omega
theorem leI_tot (a b : Int) : (leI a b || leI b a) = true := by
  unfold leI
  rw [Bool.or_eq_true, decide_eq_true_iff, decide_eq_true_iff]
  omega
theorem uniq_sortI (L : List Int) : uniq (L.mergeSort leI) = (uniq L).mergeSort leI := by
  refine perm_uniq (r := fun a b => leI a b = true) ?_ (uniq_pair (List.pairwise_mergeSort leI_tr leI_tot L)) (List.pairwise_mergeSort leI_tr leI_tot _) fun a _ b _ h1 h2 => ?_
  · refine perm_nodup (uniq_nodup _) ((List.mergeSort_perm _ _).nodup_iff.mpr (uniq_nodup _)) fun x => ?_
    rw [mem_uniq, List.mem_mergeSort, List.mem_mergeSort, mem_uniq]
  · unfold leI at *
    rw [decide_eq_true_iff] at *
    omega
theorem leS_tr (a b c : Str) (h1 : leS a b = true) (h2 : leS b c = true) : leS a c = true := by
  unfold leS at *
  rw [decide_eq_true_iff] at *
  exact List.le_trans h1 h2
theorem leS_tot (a b : Str) : (leS a b || leS b a) = true := by
  unfold leS
  rw [Bool.or_eq_true, decide_eq_true_iff, decide_eq_true_iff]
  exact List.le_total _ _
theorem uniq_sortS (L : List Str) : uniq (L.mergeSort leS) = (uniq L).mergeSort leS := by
  refine perm_uniq (r := fun a b => leS a b = true) ?_ (uniq_pair (List.pairwise_mergeSort leS_tr leS_tot L)) (List.pairwise_mergeSort leS_tr leS_tot _) fun a _ b _ h1 h2 => ?_
  · refine perm_nodup (uniq_nodup _) ((List.mergeSort_perm _ _).nodup_iff.mpr (uniq_nodup _)) fun x => ?_
    rw [mem_uniq, List.mem_mergeSort, List.mem_mergeSort, mem_uniq]
  · unfold leS at *
    rw [decide_eq_true_iff] at *
    exact str_eq (List.le_antisymm h1 h2)
/-- the order of values as the laws make it -/
theorem ord_vo (ds : List PyData) : (((intsOf ds).mergeSort leI).map PyData.int ++ ((strsOf ds).mergeSort leS).map PyData.str).foldl addP [] = vo ds := by
  rw [List.foldl_append]
  have e1 := foldP_ints ((intsOf ds).mergeSort leI) []
  rw [show ([] : List Int).map PyData.int = [] from rfl] at e1
  rw [e1]
  have e2 := foldP_strs (((intsOf ds).mergeSort leI).foldl addU []) ((strsOf ds).mergeSort leS) []
  rw [show ([] : List Str).map PyData.str = [] from rfl, List.append_nil] at e2
  rw [e2]
  have h1 := uniq_sortI (intsOf ds)
  have h2 := uniq_sortS (strsOf ds)
  unfold uniq at h1 h2
  rw [h1, h2]
  rfl
theorem filt_ints : ∀ {ds : List PyData}, (∀ d ∈ ds, isV d) → (ds.filter isIntD).map (fun d => d) = (intsOf ds).map PyData.int
  | [], _ => rfl
  | d :: ds, h => by
    have ih := filt_ints (ds := ds) fun x hx => h x (List.mem_cons_of_mem _ hx)
    rw [List.map_id'] at ih ⊢
    rcases h d List.mem_cons_self with ⟨i, rfl⟩ | ⟨z, rfl, _⟩
    · rw [List.filter_cons_of_pos rfl, ih]
      rfl
    · rw [List.filter_cons_of_neg (by simp [isIntD]), ih]
      rfl
theorem filt_strs : ∀ {ds : List PyData}, (∀ d ∈ ds, isV d) → (ds.filter isStrD).map (fun d => d) = (strsOf ds).map PyData.str
  | [], _ => rfl
  | d :: ds, h => by
    have ih := filt_strs (ds := ds) fun x hx => h x (List.mem_cons_of_mem _ hx)
    rw [List.map_id'] at ih ⊢
    rcases h d List.mem_cons_self with ⟨i, rfl⟩ | ⟨z, rfl, _⟩
    · rw [List.filter_cons_of_neg (by simp [isStrD]), ih]
      rfl
    · rw [List.filter_cons_of_pos rfl, ih]
      rfl
theorem alike_strs (L : List Str) : PySem.W.AllAlike (L.map PyData.str) := fun d hd d' hd' => by
  obtain ⟨i, _, rfl⟩ := List.mem_map.mp hd
  obtain ⟨j, _, rfl⟩ := List.mem_map.mp hd'
  rfl
theorem sortable_strs (L : List Str) : PySem.W.Sortable (L.map PyData.str) := .inr fun d hd => by
  obtain ⟨i, _, rfl⟩ := List.mem_map.mp hd
  exact ⟨fun q => (by cases q), fun xs q => (by cases q)⟩
theorem foldP_mem {x : PyData} : ∀ (ds acc : List PyData), x ∈ ds.foldl addP acc → x ∈ acc ∨ x ∈ ds
  | [], acc, h => .inl h
  | d :: ds, acc, h => by
    rcases foldP_mem ds _ h with q | q
    · unfold addP at q
      split at q
      · exact .inl q
      · rcases List.mem_append.mp q with q | q
        · exact .inl q
        · rw [List.mem_singleton] at q
          exact .inr (by rw [q]; exact List.mem_cons_self)
    · exact .inr (List.mem_cons_of_mem _ q)
theorem foldP_len : ∀ (ds acc : List PyData), (ds.foldl addP acc).length ≤ acc.length + ds.length
  | [], acc => Nat.le_refl _
  | d :: ds, acc => by
    have h1 := foldP_len ds (addP acc d)
    have h2 : (addP acc d).length ≤ acc.length + 1 := by
      unfold addP
      split
      · omega
      · simp
    rw [List.foldl_cons, List.length_cons]
    omega
theorem intsOf_len (ds : List PyData) : (intsOf ds).length ≤ ds.length := List.length_filterMap_le _ _
theorem strsOf_len (ds : List PyData) : (strsOf ds).length ≤ ds.length := List.length_filterMap_le _ _
theorem mem_intsOf {ds : List PyData} {i : Int} (h : i ∈ intsOf ds) : PyData.int i ∈ ds := by
  unfold intsOf at h
  rw [List.mem_filterMap] at h
  obtain ⟨d, hd, e⟩ := h
  cases d <;> simp at e
  rw [← e]
  exact hd
end WL

set_option Elab.async false
set_option linter.all false
set_option maxRecDepth 100000
set_option maxHeartbeats 2000000
/-! cuts -/
namespace WL
open PySem PySem.Spec PyProof.Rows L2 DL SX PK SM VO
def covN (xs ys : List Int) : Bool := (List.zip xs ys).all fun p => decide (p.2 ≤ p.1)
def minN (xs ys : List Int) : List Int := (List.zip xs ys).map fun p => min p.1 p.2
def VLe (a b : List Int) : Prop := ∀ s : Nat, atN a s ≤ atN b s
theorem VLe.refl (a : List Int) : VLe a a := fun _ => Int.le_refl _
theorem VLe.trans {a b c : List Int} (h : VLe a b) (g : VLe b c) : VLe a c := fun s => Int.le_trans (h s) (g s)
theorem atN_at {v : List Int} {s : Nat} (h : s < v.length) : v[s]? = some (atN v s) := by
  unfold atN
  rw [List.getElem?_eq_getElem h, List.getD_eq_getElem?_getD, Int.toNat_natCast, List.getElem?_eq_getElem h]
  rfl
theorem vec_ext {a b : List Int} (ha : a.length = 8) (hb : b.length = 8) (h : ∀ s : Nat, atN a s = atN b s) : a = b := by
  apply List.ext_getElem?
  intro i
  by_cases hi : i < 8
  · rw [atN_at (by omega), atN_at (by omega), h]
  · rw [List.getElem?_eq_none (by omega), List.getElem?_eq_none (by omega)]
theorem VLe.anti {a b : List Int} (ha : a.length = 8) (hb : b.length = 8) (h : VLe a b) (g : VLe b a) : a = b := vec_ext ha hb fun s => Int.le_antisymm (h s) (g s)
theorem minN_len {a b : List Int} (ha : a.length = 8) (hb : b.length = 8) : (minN a b).length = 8 := by
  unfold minN
  rw [List.length_map, List.length_zip, ha, hb]
  rfl
theorem atN_min {a b : List Int} (ha : a.length = 8) (hb : b.length = 8) (s : Nat) : atN (minN a b) s = min (atN a s) (atN b s) := by
  by_cases h : s < 8
  · have h1 : (minN a b)[s]? = some (min (atN a s) (atN b s)) := by
      unfold minN
      rw [List.getElem?_map]
      have : (List.zip a b)[s]? = some (atN a s, atN b s) := by
        rw [List.getElem?_zip_eq_some]
        exact ⟨atN_at (by omega), atN_at (by omega)⟩
      rw [this]
      rfl
    rw [atN_at (by rw [minN_len ha hb]; exact h)] at h1
    exact Option.some.inj h1
  · rw [atN_out (by rw [minN_len ha hb]; omega), atN_out (by omega), atN_out (by omega)]
    rfl
theorem covN_iff {a b : List Int} (ha : a.length = 8) (hb : b.length = 8) : covN a b = true ↔ VLe b a := by
  unfold covN
  rw [List.all_eq_true]
  constructor
  · intro h s
    by_cases hs : s < 8
    · have : (atN a s, atN b s) ∈ List.zip a b := List.mem_of_getElem? (i := s) (by rw [List.getElem?_zip_eq_some]; exact ⟨atN_at (by omega), atN_at (by omega)⟩)
      simpa using h _ this
    · rw [atN_out (by omega), atN_out (by omega)]
      exact Int.le_refl _
  · intro h p hp
    obtain ⟨i, hi⟩ := List.mem_iff_getElem?.mp hp
    rw [List.getElem?_zip_eq_some] at hi
    have h1 : i < 8 := by have := (List.getElem?_eq_some_iff.mp hi.1).1; omega
    rw [atN_at (by omega)] at hi
    rw [atN_at (by omega)] at hi
    have := h i
    rw [Option.some.inj hi.1, Option.some.inj hi.2] at this
    simpa using this
theorem knows_has {c : List Int} (hc : c.length = 8) {e : Ev} (he : EvOk e) : knowsN c e.site e.n = hasE c e := by
  obtain ⟨k, hk, hk8⟩ := site_nat he
  unfold knowsN hasE hasN
  have e1 : (decide (0 ≤ e.site ∧ e.site < (c.length : Int))) = true := by
    rw [decide_eq_true_iff, hc, hk]
    omega
  rw [e1, Bool.true_and]
  rfl
def lowS (c : List Int) (e : Ev) : List Int := if (!knowsN c e.site e.n && !covN e.seen c) = true then minN c e.seen else c
def lowN (es : List Ev) (c : List Int) : List Int := es.foldl lowS c
/-- c goes with the event -/
def Fit (c : List Int) (e : Ev) : Prop := hasE c e = true ∨ VLe c e.seen
def Fits (c : List Int) (es : List Ev) : Prop := ∀ e ∈ es, Fit c e
theorem has_mono {c c' : List Int} (h : VLe c' c) {e : Ev} (he : EvOk e) (g : hasE c' e = true) : hasE c e = true := by
  obtain ⟨k, hk, -⟩ := site_nat he
  unfold hasE hasN at g ⊢
  rw [decide_eq_true_iff] at g ⊢
  rw [hk] at g ⊢
  exact Int.le_trans g (h k)
theorem lowS_len {c : List Int} (hc : c.length = 8) {e : Ev} (he : EvOk e) : (lowS c e).length = 8 := by
  unfold lowS
  split
  · exact minN_len hc he.2.2.2.1
  · exact hc
theorem lowS_le {c : List Int} (hc : c.length = 8) {e : Ev} (he : EvOk e) : VLe (lowS c e) c := by
  unfold lowS
  split
  · intro s
    rw [atN_min hc he.2.2.2.1]
    omega
  · exact VLe.refl _
theorem lowS_non {c : List Int} (hc : c.length = 8) {e : Ev} (he : EvOk e) (h : ∀ s : Nat, 0 ≤ atN c s) (g : ∀ s : Nat, 0 ≤ atN e.seen s) (s : Nat) : 0 ≤ atN (lowS c e) s := by
  unfold lowS
  split
  · rw [atN_min hc he.2.2.2.1]
    have := h s
    have := g s
    omega
  · exact h s
theorem lowS_ge {c c' : List Int} (hc : c.length = 8) (hc' : c'.length = 8) {e : Ev} (he : EvOk e) (h : VLe c' c) (f : Fit c' e) : VLe c' (lowS c e) := by
  unfold lowS
  rw [knows_has hc he]
  split
  · rename_i q
    rw [Bool.and_eq_true] at q
    rcases f with f | f
    · have := has_mono h he f
      rw [this] at q
      cases q.1
    · intro s
      rw [atN_min hc he.2.2.2.1]
      have := h s
      have := f s
      omega
  · exact h
theorem lowS_fix {c : List Int} (hc : c.length = 8) {e : Ev} (he : EvOk e) (h : lowS c e = c) : Fit c e := by
  unfold lowS at h
  rw [knows_has hc he] at h
  by_cases q : hasE c e = true
  · exact .inl q
  · refine .inr ?_
    have q' : hasE c e = false := by simpa using q
    rw [q'] at h
    by_cases r : covN e.seen c = true
    · exact (covN_iff he.2.2.2.1 hc).mp r
    · have r' : covN e.seen c = false := by simpa using r
      rw [r'] at h
      replace h : minN c e.seen = c := by simpa using h
      intro s
      have := atN_min hc he.2.2.2.1 s
      rw [h] at this
      omega
section
variable {es : List Ev} (hok : ∀ e ∈ es, EvOk e)
include hok
theorem lowN_len {c : List Int} (hc : c.length = 8) : (lowN es c).length = 8 := by
  induction es generalizing c with
  | nil => exact hc
  | cons e es ih => exact ih (fun x hx => hok x (List.mem_cons_of_mem _ hx)) (lowS_len hc (hok e List.mem_cons_self))
theorem lowN_le {c : List Int} (hc : c.length = 8) : VLe (lowN es c) c := by
  induction es generalizing c with
  | nil => exact VLe.refl _
  | cons e es ih => exact (ih (fun x hx => hok x (List.mem_cons_of_mem _ hx)) (lowS_len hc (hok e List.mem_cons_self))).trans (lowS_le hc (hok e List.mem_cons_self))
theorem lowN_non {c : List Int} (hc : c.length = 8) (h : ∀ s : Nat, 0 ≤ atN c s) (g : ∀ e ∈ es, ∀ s : Nat, 0 ≤ atN e.seen s) : ∀ s : Nat, 0 ≤ atN (lowN es c) s := by
  induction es generalizing c with
  | nil => exact h
  | cons e es ih => exact ih (fun x hx => hok x (List.mem_cons_of_mem _ hx)) (lowS_len hc (hok e List.mem_cons_self)) (lowS_non hc (hok e List.mem_cons_self) h (g e List.mem_cons_self)) (fun x hx => g x (List.mem_cons_of_mem _ hx))
theorem lowN_ge {c c' : List Int} (hc : c.length = 8) (hc' : c'.length = 8) (h : VLe c' c) (f : Fits c' es) : VLe c' (lowN es c) := by
  induction es generalizing c with
  | nil => exact h
  | cons e es ih => exact ih (fun x hx => hok x (List.mem_cons_of_mem _ hx)) (lowS_len hc (hok e List.mem_cons_self)) (lowS_ge hc hc' (hok e List.mem_cons_self) h (f e List.mem_cons_self)) (fun x hx => f x (List.mem_cons_of_mem _ hx))
theorem lowN_fix {c : List Int} (hc : c.length = 8) (h : lowN es c = c) : Fits c es := by
  induction es generalizing c with
  | nil => intro e he; cases he
  | cons e es ih =>
    have h1 := lowS_len hc (hok e List.mem_cons_self)
    have h2 := lowS_le hc (hok e List.mem_cons_self)
    have h3 := lowN_le (fun x hx => hok x (List.mem_cons_of_mem e hx)) h1
    have h4 : lowN es (lowS c e) = c := h
    rw [h4] at h3
    have h5 : lowS c e = c := VLe.anti h1 hc h2 h3
    rw [h5] at h4
    intro x hx
    rcases List.mem_cons.mp hx with rfl | hx
    · exact lowS_fix hc (hok x List.mem_cons_self) h5
    · exact ih (fun x hx => hok x (List.mem_cons_of_mem _ hx)) hc h4 x hx
end
def vsum (c : List Int) : Nat := (c.map Int.toNat).sum
theorem sum_le : ∀ (a b : List Int), a.length = b.length → (∀ i : Nat, ∀ x y, a[i]? = some x → b[i]? = some y → x ≤ y) → (a.map Int.toNat).sum ≤ (b.map Int.toNat).sum
  | [], [], _, _ => Nat.le_refl _
  | x :: a, y :: b, hl, h => by
    have h1 := h 0 x y rfl rfl
    have h2 := sum_le a b (by simpa using hl) fun i u v p q => h (i + 1) u v (by simpa using p) (by simpa using q)
    simp only [List.map_cons, List.sum_cons]
    omega
  | [], _ :: _, hl, _ => by simp at hl
  | _ :: _, [], hl, _ => by simp at hl
theorem sum_lt : ∀ (a b : List Int), a.length = b.length → (∀ i : Nat, ∀ x y, a[i]? = some x → b[i]? = some y → 0 ≤ x ∧ x ≤ y) → a ≠ b → (a.map Int.toNat).sum < (b.map Int.toNat).sum
  | [], [], _, _, h => absurd rfl h
  | x :: a, y :: b, hl, h, ne => by
    have h1 := h 0 x y rfl rfl
    simp only [List.map_cons, List.sum_cons]
    by_cases e : x = y
    · subst e
      have h2 := sum_lt a b (by simpa using hl) (fun i u v p q => h (i + 1) u v (by simpa using p) (by simpa using q)) fun z => ne (by rw [z])
      omega
    · have h2 := sum_le a b (by simpa using hl) fun i u v p q => (h (i + 1) u v (by simpa using p) (by simpa using q)).2
      omega
  | [], _ :: _, hl, _, _ => by simp at hl
  | _ :: _, [], hl, _, _ => by simp at hl
theorem vsum_lt {a b : List Int} (ha : a.length = 8) (hb : b.length = 8) (h0 : ∀ s : Nat, 0 ≤ atN a s) (h : VLe a b) (ne : a ≠ b) : vsum a < vsum b :=
  sum_lt a b (by omega) (fun i x y p q => by
    have h1 : i < 8 := by have := (List.getElem?_eq_some_iff.mp p).1; omega
    rw [atN_at (by omega)] at p
    rw [atN_at (by omega)] at q
    cases p
    cases q
    exact ⟨h0 i, h i⟩) ne
/-- the greatest cut -/
structure IsCut (st : List Int) (es : List Ev) (c : List Int) : Prop where
  len : c.length = 8
  non : ∀ s : Nat, 0 ≤ atN c s
  le : VLe c st
  fits : Fits c es
  great : ∀ c' : List Int, c'.length = 8 → VLe c' st → Fits c' es → VLe c' c
theorem IsCut.uniq {st : List Int} {es : List Ev} {c d : List Int} (h : IsCut st es c) (g : IsCut st es d) : c = d := VLe.anti h.len g.len (g.great c h.len h.le h.fits) (h.great d g.len g.le g.fits)
theorem Fits.perm {es es' : List Ev} {c : List Int} (h : Fits c es) (p : es'.Perm es) : Fits c es' := fun e he => h e (p.mem_iff.mp he)
theorem IsCut.perm {st : List Int} {es es' : List Ev} {c : List Int} (h : IsCut st es c) (p : es'.Perm es) : IsCut st es' c := ⟨h.len, h.non, h.le, h.fits.perm p, fun c' a b f => h.great c' a b (f.perm p.symm)⟩
/-- all vectors below one -/
def belowS (found : List (List Int)) (n : Int) : List (List Int) := found.flatMap fun row => (List.range (n + 1).toNat).map fun (k : Nat) => row ++ [(k : Int)]
def belowN (vs : List Int) : List (List Int) := vs.foldl belowS [[]]
def InBox : List Int → List Int → Prop
  | [], [] => True
  | x :: r, n :: vs => 0 ≤ x ∧ x ≤ n ∧ InBox r vs
  | _, _ => False
theorem mem_belowF : ∀ (vs : List Int) (F : List (List Int)) (r : List Int), r ∈ vs.foldl belowS F ↔ ∃ p ∈ F, ∃ q, r = p ++ q ∧ InBox q vs
  | [], F, r => by
    constructor
    · intro h
      exact ⟨r, h, [], (List.append_nil r).symm, trivial⟩
    · rintro ⟨p, hp, q, rfl, hq⟩
      cases q with
      | nil => rwa [List.append_nil]
      | cons x q => exact hq.elim
  | n :: vs, F, r => by
    rw [List.foldl_cons, mem_belowF vs]
    constructor
    · rintro ⟨p, hp, q, rfl, hq⟩
      unfold belowS at hp
      rw [List.mem_flatMap] at hp
      obtain ⟨row, hr, hp⟩ := hp
      obtain ⟨k, hk, rfl⟩ := List.mem_map.mp hp
      rw [List.mem_range] at hk
      exact ⟨row, hr, (k : Int) :: q, by simp, by omega, by omega, hq⟩
    · rintro ⟨p, hp, q, rfl, hq⟩
      cases q with
      | nil => exact hq.elim
      | cons x q =>
        obtain ⟨h1, h2, h3⟩ := hq
        refine ⟨p ++ [x], ?_, q, by simp, h3⟩
        unfold belowS
        rw [List.mem_flatMap]
        refine ⟨p, hp, List.mem_map.mpr ⟨x.toNat, List.mem_range.mpr (by omega), ?_⟩⟩
        rw [Int.toNat_of_nonneg h1]
theorem inBox_iff : ∀ (r vs : List Int), InBox r vs ↔ r.length = vs.length ∧ ∀ (i : Nat) (x n : Int), r[i]? = some x → vs[i]? = some n → 0 ≤ x ∧ x ≤ n
  | [], [] => ⟨fun _ => ⟨rfl, fun i x n h => by simp at h⟩, fun _ => trivial⟩
  | x :: r, n :: vs => by
    have ih := inBox_iff r vs
    constructor
    · rintro ⟨h1, h2, h3⟩
      obtain ⟨a, b⟩ := ih.mp h3
      refine ⟨by simp [a], fun i y m hy hm => ?_⟩
      cases i with
      | zero => simp at hy hm; subst hy; subst hm; exact ⟨h1, h2⟩
      | succ i => exact b i y m (by simpa using hy) (by simpa using hm)
    · rintro ⟨a, b⟩
      obtain ⟨h1, h2⟩ := b 0 x n rfl rfl
      exact ⟨h1, h2, ih.mpr ⟨by simpa using a, fun i y m hy hm => b (i + 1) y m (by simpa using hy) (by simpa using hm)⟩⟩
  | [], _ :: _ => ⟨fun h => h.elim, fun h => by simp at h⟩
  | _ :: _, [] => ⟨fun h => h.elim, fun h => by simp at h⟩
theorem mem_below {st r : List Int} (hs : st.length = 8) : r ∈ belowN st ↔ r.length = 8 ∧ (∀ s : Nat, 0 ≤ atN r s) ∧ VLe r st := by
  unfold belowN
  rw [mem_belowF]
  constructor
  · rintro ⟨p, hp, q, rfl, hq⟩
    rw [List.mem_singleton] at hp
    subst hp
    rw [List.nil_append]
    obtain ⟨a, b⟩ := (inBox_iff _ _).mp hq
    have ha : q.length = 8 := by omega
    refine ⟨ha, fun s => ?_, fun s => ?_⟩
    · by_cases h : s < 8
      · exact (b s _ _ (atN_at (by omega)) (atN_at (by omega))).1
      · rw [atN_out (by omega)]
        exact Int.le_refl _
    · by_cases h : s < 8
      · exact (b s _ _ (atN_at (by omega)) (atN_at (by omega))).2
      · rw [atN_out (by omega), atN_out (by omega)]
        exact Int.le_refl _
  · rintro ⟨a, b, c⟩
    refine ⟨[], List.mem_singleton.mpr rfl, r, rfl, (inBox_iff _ _).mpr ⟨by omega, fun i x n hx hn => ?_⟩⟩
    have h1 : i < 8 := by have := (List.getElem?_eq_some_iff.mp hx).1; omega
    rw [atN_at (by omega)] at hx
    rw [atN_at (by omega)] at hn
    cases hx
    cases hn
    exact ⟨b i, c i⟩
def prodN (vs : List Int) : Nat := vs.foldl (fun p n => p * (n + 1).toNat) 1
theorem belowS_len (F : List (List Int)) (n : Int) : (belowS F n).length = F.length * (n + 1).toNat := by
  unfold belowS
  rw [List.length_flatMap]
  induction F with
  | nil => simp
  | cons x F ih => rw [List.map_cons, List.sum_cons, ih]; simp [Nat.succ_mul, Nat.add_comm]
theorem below_len : ∀ (vs : List Int) (F : List (List Int)) (p : Nat), F.length = p → (vs.foldl belowS F).length = vs.foldl (fun p n => p * (n + 1).toNat) p
  | [], F, p, h => h
  | n :: vs, F, p, h => below_len vs _ _ (by rw [belowS_len, h])
/-- a vector with small numbers for three sites -/
def V3 (k : Int) (v : List Int) : Prop := ∃ a b c : Int, v = [a, b, c, 0, 0, 0, 0, 0] ∧ 0 ≤ a ∧ a ≤ k ∧ 0 ≤ b ∧ b ≤ k ∧ 0 ≤ c ∧ c ≤ k
theorem V3.len {k : Int} {v : List Int} (h : V3 k v) : v.length = 8 := by
  obtain ⟨a, b, c, rfl, -⟩ := h
  rfl
theorem V3.mono {k j : Int} {v : List Int} (h : V3 k v) (g : k ≤ j) : V3 j v := by
  obtain ⟨a, b, c, rfl, h⟩ := h
  exact ⟨a, b, c, rfl, by omega⟩
theorem V3.at {k : Int} {v : List Int} (h : V3 k v) (hk : 0 ≤ k) (s : Nat) : 0 ≤ atN v s ∧ atN v s ≤ k := by
  obtain ⟨a, b, c, rfl, h⟩ := h
  rcases Nat.lt_or_ge s 8 with q | q
  · rcases (show s = 0 ∨ s = 1 ∨ s = 2 ∨ s = 3 ∨ s = 4 ∨ s = 5 ∨ s = 6 ∨ s = 7 by omega) with rfl | rfl | rfl | rfl | rfl | rfl | rfl | rfl <;> (simp only [atN, Int.toNat_natCast]; simp; try omega)
  · rw [atN_out (by simpa using q)]
    omega
theorem V3.mem {k : Int} {v : List Int} (h : V3 k v) (hk : 0 ≤ k) : ∀ n ∈ v, 0 ≤ n ∧ n ≤ k := by
  obtain ⟨a, b, c, rfl, h⟩ := h
  intro n hn
  simp only [List.mem_cons, List.not_mem_nil, or_false] at hn
  rcases hn with rfl | rfl | rfl | rfl | rfl | rfl | rfl | rfl <;> omega
theorem V3.join {k : Int} {v w : List Int} (h : V3 k v) (g : V3 k w) : V3 k (joinN v w) := by
  obtain ⟨a, b, c, rfl, h⟩ := h
  obtain ⟨d, e, f, rfl, g⟩ := g
  exact ⟨max a d, max b e, max c f, rfl, by omega⟩
theorem V3.min {k : Int} {v w : List Int} (h : V3 k v) (g : V3 k w) : V3 k (minN v w) := by
  obtain ⟨a, b, c, rfl, h⟩ := h
  obtain ⟨d, e, f, rfl, g⟩ := g
  exact ⟨Min.min a d, Min.min b e, Min.min c f, rfl, by omega⟩
theorem V3.set {k n : Int} {v : List Int} {i : Nat} (h : V3 k v) (hi : i < 3) (h0 : 0 ≤ n) (h1 : n ≤ k) : V3 k (v.set i n) := by
  obtain ⟨a, b, c, rfl, h⟩ := h
  rcases (show i = 0 ∨ i = 1 ∨ i = 2 by omega) with rfl | rfl | rfl
  · exact ⟨n, b, c, rfl, by omega⟩
  · exact ⟨a, n, c, rfl, by omega⟩
  · exact ⟨a, b, n, rfl, by omega⟩
theorem V3.of {k : Int} {v w : List Int} (h : V3 k v) (hw : w.length = 8) (h0 : ∀ s : Nat, 0 ≤ atN w s) (h1 : ∀ s : Nat, atN w s ≤ atN v s) : V3 k w := by
  obtain ⟨a, b, c, rfl, h⟩ := h
  match w, hw with
  | [x0, x1, x2, x3, x4, x5, x6, x7], _ =>
    have q : ∀ s : Nat, 0 ≤ atN [x0, x1, x2, x3, x4, x5, x6, x7] s ∧ atN [x0, x1, x2, x3, x4, x5, x6, x7] s ≤ atN [a, b, c, 0, 0, 0, 0, 0] s := fun s => ⟨h0 s, h1 s⟩
    have q0 := q 0; have q1 := q 1; have q2 := q 2; have q3 := q 3; have q4 := q 4; have q5 := q 5; have q6 := q 6; have q7 := q 7
    simp [atN] at q0 q1 q2 q3 q4 q5 q6 q7
    have e3 : x3 = 0 := by omega
    have e4 : x4 = 0 := by omega
    have e5 : x5 = 0 := by omega
    have e6 : x6 = 0 := by omega
    have e7 : x7 = 0 := by omega
    subst e3 e4 e5 e6 e7
    exact ⟨x0, x1, x2, rfl, by omega⟩
theorem V3.zero {k : Int} (h : 0 ≤ k) : V3 k zero8 := ⟨0, 0, 0, rfl, by omega⟩
theorem V3.prod {v : List Int} (h : V3 14 v) (i : Nat) : (List.foldl (fun p n => p * (n + 1).toNat) 1 (v.take i)) ≤ 3375 := by
  obtain ⟨a, b, c, rfl, h⟩ := h
  have ha : (a + 1).toNat ≤ 15 := by omega
  have hb : (b + 1).toNat ≤ 15 := by omega
  have hc : (c + 1).toNat ≤ 15 := by omega
  have h2 : (a + 1).toNat * (b + 1).toNat ≤ 225 := Nat.mul_le_mul ha hb
  have h3 : (a + 1).toNat * (b + 1).toNat * (c + 1).toNat ≤ 3375 := Nat.mul_le_mul h2 hc
  rcases i with _ | _ | _ | _ | _ | _ | _ | _ | i <;> simp <;> omega
end WL

set_option Elab.async false
set_option linter.all false
set_option maxRecDepth 100000
set_option maxHeartbeats 4000000
open PySem PySem.Spec PyProof.Rows L2 DL
set_option pp.maxSteps 800

namespace K60
def top (i : Nat) : Stmt := PySem.Challenge.pw_partmeet_k60_clients_and_mail.main.body.getD i (.Pass ⟨0, 0, 0, 0⟩)
abbrev s_covers : Stmt := top 8
theorem sc_covers : FnScope ["vector", "other", "number", "least_wanted"] ["vector", "other"] (defScope s_covers) := ⟨rfl, rfl, rfl, by decide +kernel, rfl, by decide +kernel, by decide +kernel⟩
abbrev s_joined : Stmt := top 9
theorem sc_joined : FnScope ["vector", "other", "pair"] ["vector", "other"] (defScope s_joined) := ⟨rfl, rfl, rfl, by decide +kernel, rfl, by decide +kernel, by decide +kernel⟩
abbrev s_law_number : Stmt := top 13
theorem sc_law_number : FnScope ["script", "k", "cell", "first", "second"] ["script", "k"] (defScope s_law_number) := ⟨rfl, rfl, rfl, by decide +kernel, rfl, by decide +kernel, by decide +kernel⟩
abbrev s_law_take : Stmt := top 14
theorem sc_law_take : FnScope ["box", "size", "digit"] ["box", "size"] (defScope s_law_take) := ⟨rfl, rfl, rfl, by decide +kernel, rfl, by decide +kernel, by decide +kernel⟩
abbrev s_law_vector : Stmt := top 15
theorem sc_law_vector : FnScope ["box", "k"] ["box"] (defScope s_law_vector) := ⟨rfl, rfl, rfl, by decide +kernel, rfl, by decide +kernel, by decide +kernel⟩
abbrev s_law_client_holds : Stmt := top 16
theorem sc_law_client_holds : FnScope ["script", "client", "token", "k", "box", "vector", "site", "due", "told"] ["script"] (defScope s_law_client_holds) := ⟨rfl, rfl, rfl, by decide +kernel, rfl, by decide +kernel, by decide +kernel⟩
abbrev s_law_asked : Stmt := top 17
theorem sc_law_asked : FnScope ["mail", "kind", "number", "e"] ["mail", "kind", "number"] (defScope s_law_asked) := ⟨rfl, rfl, rfl, by decide +kernel, rfl, by decide +kernel, by decide +kernel⟩
abbrev s_law_due : Stmt := top 18
theorem sc_law_due : FnScope ["model", "cuts", "count", "kind", "number"] ["model", "cuts", "count", "kind", "number"] (defScope s_law_due) := ⟨rfl, rfl, rfl, by decide +kernel, rfl, by decide +kernel, by decide +kernel⟩
abbrev s_law : Stmt := top 19
theorem sc_law : FnScope ["script", "box", "mail", "model", "cuts", "count", "k", "ends", "kind", "number", "body", "pair", "due", "one"] ["script"] (defScope s_law) := ⟨rfl, rfl, rfl, by decide +kernel, rfl, by decide +kernel, by decide +kernel⟩
abbrev s_Mail_init : Stmt := inClass (top 5) 0
theorem sc_Mail_init : FnScope ["self"] ["self"] (defScope s_Mail_init) := ⟨rfl, rfl, rfl, by decide +kernel, rfl, by decide +kernel, by decide +kernel⟩
abbrev s_Mail_put : Stmt := inClass (top 5) 1
theorem sc_Mail_put : FnScope ["self", "sender", "receiver", "body", "number"] ["self", "sender", "receiver", "body"] (defScope s_Mail_put) := ⟨rfl, rfl, rfl, by decide +kernel, rfl, by decide +kernel, by decide +kernel⟩
abbrev s_Mail_look : Stmt := inClass (top 5) 2
theorem sc_Mail_look : FnScope ["self", "number"] ["self", "number"] (defScope s_Mail_look) := ⟨rfl, rfl, rfl, by decide +kernel, rfl, by decide +kernel, by decide +kernel⟩
abbrev s_Mail_lose : Stmt := inClass (top 5) 3
theorem sc_Mail_lose : FnScope ["self", "number"] ["self", "number"] (defScope s_Mail_lose) := ⟨rfl, rfl, rfl, by decide +kernel, rfl, by decide +kernel, by decide +kernel⟩
abbrev s_Mail_double : Stmt := inClass (top 5) 4
theorem sc_Mail_double : FnScope ["self", "number", "sender", "receiver", "body"] ["self", "number"] (defScope s_Mail_double) := ⟨rfl, rfl, rfl, by decide +kernel, rfl, by decide +kernel, by decide +kernel⟩
abbrev s_Mail_check_link : Stmt := inClass (top 5) 5
theorem sc_Mail_check_link : FnScope ["self", "number", "sender", "receiver", "_"] ["self", "number"] (defScope s_Mail_check_link) := ⟨rfl, rfl, rfl, by decide +kernel, rfl, by decide +kernel, by decide +kernel⟩
abbrev s_Mail_cut : Stmt := inClass (top 5) 6
theorem sc_Mail_cut : FnScope ["self", "sender", "receiver"] ["self", "sender", "receiver"] (defScope s_Mail_cut) := ⟨rfl, rfl, rfl, by decide +kernel, rfl, by decide +kernel, by decide +kernel⟩
abbrev s_Mail_heal : Stmt := inClass (top 5) 7
theorem sc_Mail_heal : FnScope ["self", "sender", "receiver"] ["self", "sender", "receiver"] (defScope s_Mail_heal) := ⟨rfl, rfl, rfl, by decide +kernel, rfl, by decide +kernel, by decide +kernel⟩
abbrev s_Mail_numbers : Stmt := inClass (top 5) 8
theorem sc_Mail_numbers : FnScope ["self"] ["self"] (defScope s_Mail_numbers) := ⟨rfl, rfl, rfl, by decide +kernel, rfl, by decide +kernel, by decide +kernel⟩
abbrev s_Mail_cut_links : Stmt := inClass (top 5) 9
theorem sc_Mail_cut_links : FnScope ["self"] ["self"] (defScope s_Mail_cut_links) := ⟨rfl, rfl, rfl, by decide +kernel, rfl, by decide +kernel, by decide +kernel⟩
abbrev s_Client_init : Stmt := inClass (top 11) 0
theorem sc_Client_init : FnScope ["self"] ["self"] (defScope s_Client_init) := ⟨rfl, rfl, rfl, by decide +kernel, rfl, by decide +kernel, by decide +kernel⟩
abbrev s_Client_may_ask : Stmt := inClass (top 11) 1
theorem sc_Client_may_ask : FnScope ["self", "vector"] ["self", "vector"] (defScope s_Client_may_ask) := ⟨rfl, rfl, rfl, by decide +kernel, rfl, by decide +kernel, by decide +kernel⟩
abbrev s_Client_saw : Stmt := inClass (top 11) 2
theorem sc_Client_saw : FnScope ["self", "vector"] ["self", "vector"] (defScope s_Client_saw) := ⟨rfl, rfl, rfl, by decide +kernel, rfl, by decide +kernel, by decide +kernel⟩
structure Glb (K : PySem.W.Frag) (mg : Str → Option Value) : Prop where
  all_ : mg "all" = none
  zip : mg "zip" = none
  tuple : mg "tuple" = none
  max : mg "max" = none
  len : mg "len" = none
  int : mg "int" = none
  range : mg "range" = none
  isinstance : mg "isinstance" = none
  bool : mg "bool" = none
  sorted : mg "sorted" = none
  c_NO_VECTOR : GC K mg "NO_VECTOR" (.tuple [.int 0, .int 0, .int 0, .int 0, .int 0, .int 0, .int 0, .int 0])
end K60

local macro_rules | `(tactic| walk_at "nm") => `(tactic| first
  | refine de_const (by assumption) ?_)
local macro_rules | `(tactic| walk_at "cl") => `(tactic| first
  | ((with_reducible refine call_tag "len" ?_); refine de_callB "len" (by assumption) boot_len ?_)
  | ((with_reducible refine call_tag "isinstance" ?_); refine de_callB "isinstance" (by assumption) boot_isinstance ?_)
  | ((with_reducible refine call_tag "max" ?_); refine de_callB "max" (by assumption) boot_max ?_)
  | ((with_reducible refine call_tag "min" ?_); refine de_callB "min" (by assumption) boot_min ?_)
  | ((with_reducible refine call_tag "all" ?_); refine de_callB "all" (by assumption) boot_all ?_)
  | ((with_reducible refine call_tag "any" ?_); refine de_callB "any" (by assumption) boot_any ?_)
  | ((with_reducible refine call_tag "sorted" ?_); refine de_callB "sorted" (by assumption) boot_sorted ?_)
  | ((with_reducible refine call_tag "abs" ?_); refine de_callB "abs" (by assumption) boot_abs ?_)
  | ((with_reducible refine call_tag "ord" ?_); refine de_callB "ord" (by assumption) boot_ord ?_)
  | ((with_reducible refine call_tag "sum" ?_); refine de_callB "sum" (by assumption) boot_sum ?_)
  | ((with_reducible refine call_tag "int" ?_); refine de_callTy "int" (by assumption) PyProof.Rows.boot_int ?_)
  | ((with_reducible refine call_tag "str" ?_); refine de_callTy "str" (by assumption) boot_str ?_)
  | ((with_reducible refine call_tag "bool" ?_); refine de_callTy "bool" (by assumption) boot_bool ?_)
  | ((with_reducible refine call_tag "list" ?_); refine de_callTy "list" (by assumption) boot_list ?_)
  | ((with_reducible refine call_tag "tuple" ?_); refine de_callTy "tuple" (by assumption) boot_tuple ?_)
  | refine de_call (by assumption) (Room.mono (by assumption) (by decide)) ?_)
local macro_rules | `(tactic| walk_at "e1") => `(tactic| first
  | (show DE _ _ _ (.Name _ _) _; first | walk_at "nm" | ((with_reducible refine name_tag "int" ?_); refine de_ty (by assumption) PyProof.Rows.boot_int ?_) | ((with_reducible refine name_tag "str" ?_); refine de_ty (by assumption) boot_str ?_) | ((with_reducible refine name_tag "bool" ?_); refine de_ty (by assumption) boot_bool ?_) | ((with_reducible refine name_tag "list" ?_); refine de_ty (by assumption) boot_list ?_) | ((with_reducible refine name_tag "tuple" ?_); refine de_ty (by assumption) boot_tuple ?_))
  | (show DE _ _ _ (.Constant _ _ _) _; first | refine de_int ?_ | refine de_str ?_ | refine de_bl ?_ | refine de_non ?_)
  | refine de_bin ?_
  | (show DE _ _ _ (.Call _ _ _ _) _; walk_at "cl")
  | refine de_sl ?_
  | refine de_ix ?_
  | refine de_cmp ?_
  | refine de_not ?_
  | refine de_and ?_
  | refine de_or ?_
  | refine de_one ?_
  | refine de_tup ?_
  | refine de_lst ?_
  | refine de_un ?_
  | refine de_ifExp ?_
  | refine de_chain ?_)
local macro_rules | `(tactic| walk_at "t1") => `(tactic| first
  | refine dt_cmp ?_
  | refine dt_chain ?_
  | refine dt_not ?_
  | refine dt_w (dw_and ?_)
  | refine dt_w (dw_or ?_)
  | refine dt_val ?_)
local macro_rules | `(tactic| walk_at "w1") => `(tactic| first
  | refine dw_and ?_
  | refine dw_or ?_
  | refine dw_and1 ?_
  | refine dw_or1 ?_)
local macro_rules | `(tactic| walk_at "a1") => `(tactic| first
  | refine da_nil ?_
  | refine da_cons ?_)
local macro_rules | `(tactic| walk_at "hm") => `(tactic| first
  | (exact cmul_r (by decide)) | (exact cmul_l (by decide)) | (exact cmul_r (by omega)) | (exact cmul_l (by omega)) | assumption)
local macro_rules | `(tactic| walk_at "hd") => `(tactic| first
  | (exact cdivw (by decide) (by decide)) | assumption)
local macro_rules | `(tactic| walk_at "sz") => `(tactic| first
  | assumption | exact sz0 (by decide) | exact sz0 (by simp only [List.length_cons, List.length_nil]; omega) | exact sz0 (by omega) | exact sz0 (by first | (simp; done) | (simp; omega)))
local macro_rules | `(tactic| walk_at "sh") => `(tactic| first | assumption | exact shaped_vec _ | exact shaped_vecs _ | decide +kernel | rfl)
local macro_rules | `(tactic| walk_at "bi") => `(tactic| first
  | ((with_reducible show BinD _ (binaryOp .Add) _ _ _ _); first | refine b_add ?_ | (refine b_addS ?hl ?_; case hl => walk_at "sz") | (refine b_addT ?hl ?_; case hl => walk_at "sz") | (refine b_addL rdl rdl ?hl ?_; case hl => walk_at "sz"))
  | ((with_reducible show BinD _ (binaryOp .Sub) _ _ _ _); first | refine b_sub ?_)
  | ((with_reducible show BinD _ (binaryOp .Mult) _ _ _ _); first | (refine b_mul ?hc ?_; case hc => walk_at "hm"))
  | ((with_reducible show BinD _ (binaryOp .FloorDiv) _ _ _ _); first | (refine b_fdiv ?hc ?_; case hc => walk_at "hd"))
  | ((with_reducible show BinD _ (binaryOp .Mod) _ _ _ _); first | (refine b_mod ?hc ?_; case hc => first | decide | omega | assumption))
  | ((with_reducible show BinD _ (binaryOp .Pow) _ _ _ _); first | (refine b_pow ?hc ?_; case hc => exact cpow (by decide)))
  | ((with_reducible show BinD _ (compareOp .Lt) _ _ _ _); first | refine b_lt ?_)
  | ((with_reducible show BinD _ (compareOp .LtE) _ _ _ _); first | refine b_le ?_)
  | ((with_reducible show BinD _ (compareOp .Gt) _ _ _ _); first | refine b_gt ?_)
  | ((with_reducible show BinD _ (compareOp .GtE) _ _ _ _); first | refine b_ge ?_)
  | ((with_reducible show BinD _ (compareOp .Eq) _ _ _ _); first | refine b_eqI ?_ | refine b_eqS ?_ | refine b_eqB ?_ | (refine b_eq ?hu ?hd ?he ?_; (case hu => exact Room.units (by assumption)); (case hd => walk_at "sh"); (case he => walk_at "sh")))
  | ((with_reducible show BinD _ (compareOp .NotEq) _ _ _ _); first | refine b_neI ?_ | refine b_neS ?_ | refine b_neB ?_ | (refine b_ne ?hu ?hd ?he ?_; (case hu => exact Room.units (by assumption)); (case hd => walk_at "sh"); (case he => walk_at "sh")))
  | ((with_reducible show BinD _ (compareOp .Is) _ _ _ _); first | refine b_isN ?_)
  | ((with_reducible show BinD _ (compareOp .IsNot) _ _ _ _); first | refine b_isNn ?_)
  | ((with_reducible show BinD _ (compareOp .In) _ _ _ _); first | refine b_inS ?_ | (refine b_inF ?hd ?he ?_; (case hd => first | rfl | assumption); (case he => first | rfl | assumption)) | (refine b_inT ?hd ?he ?_; (case hd => first | rfl | assumption); (case he => first | rfl | assumption)) | (refine b_inL ?hu rdw rdw ?hd ?he ?_; (case hu => exact DL.Room.u65 (by assumption)); (case hd => walk_at "sh"); (case he => walk_at "sh")) | (refine b_inTD ?hu ?hd ?he ?_; (case hu => exact DL.Room.u65 (by assumption)); (case hd => walk_at "sh"); (case he => walk_at "sh")))
  | ((with_reducible show BinD _ (compareOp .NotIn) _ _ _ _); first | refine b_niS ?_ | (refine b_niF ?hd ?he ?_; (case hd => first | rfl | assumption); (case he => first | rfl | assumption)) | (refine b_niT ?hd ?he ?_; (case hd => first | rfl | assumption); (case he => first | rfl | assumption)) | (refine b_niL ?hu rdw rdw ?hd ?he ?_; (case hu => exact DL.Room.u65 (by assumption)); (case hd => walk_at "sh"); (case he => walk_at "sh")) | (refine b_niTD ?hu ?hd ?he ?_; (case hu => exact DL.Room.u65 (by assumption)); (case hd => walk_at "sh"); (case he => walk_at "sh"))))
local macro_rules | `(tactic| walk_at "ca") => `(tactic| first
  | refine c_lenT ?_
  | (refine c_lenS ?hl ?_; case hl => walk_at "sz")
  | refine c_lenR rdw ?_
  | refine c_lenR rds ?_
  | refine c_isInt ?_
  | refine c_isBool ?_
  | refine c_isStr ?_
  | refine c_isTup ?_
  | refine c_isList ?_
  | refine c_int ?_
  | refine c_intB ?_
  | refine c_max2 rfl ?_
  | refine c_min2 rfl ?_
  | refine c_abs ?_
  | refine c_ord ?_
  | refine c_list rdl ?_
  | refine c_listT ?_
  | refine c_tup rdl ?_
  | refine c_tupT ?_
  | (refine DY.c_max2T rfl ?hu ?_; case hu => exact Room.units (by assumption))
  | (refine DY.c_min2T rfl ?hu ?_; case hu => exact Room.units (by assumption)))
local macro_rules | `(tactic| walk_at "ix") => `(tactic| first
  | ((with_reducible show IxD _ _ (W.d (PyData.int (@OfNat.ofNat Int _ _))) _ _); first | refine ix_t rfl ?_ | refine ix_l rdl rfl ?_ | refine ix_s (by walk_at "sz") rfl ?_ | refine ix_l rdl at0 ?_ | refine ix_t at0 ?_)
  | refine ix_t (by with_reducible assumption) ?_ | refine ix_l rdl (by with_reducible assumption) ?_
  | ((with_reducible show IxD _ _ (W.d (PyData.int (@Nat.cast Int _ (@OfNat.ofNat Nat _ _)))) _ _); first | refine ix_t rfl ?_ | refine ix_l rdl rfl ?_ | refine ix_s (by walk_at "sz") rfl ?_)
  | refine ix_s (by walk_at "sz") (by with_reducible assumption) ?_)
local macro_rules | `(tactic| walk_at "sl") => `(tactic| first
  | refine sl_t ?_
  | (refine sl_s ?hl ?_; case hl => walk_at "sz")
  | refine sl_l rdl ?_)
local macro_rules | `(tactic| walk_at "p1") => `(tactic| first
  | refine tb_i ?_
  | refine toI_i ?_
  | (refine ⟨_, rfl, ?hl, ?_⟩; case hl => walk_at "sz")
  | refine call_pre rfl ?_
  | refine pf1_i trivial ?_
  | refine pf2_i trivial ?_
  | refine pf3_i trivial ?_
  | walk_at "if")
local macro_rules | `(tactic| walk_at "if") => `(tactic| first
  | refine if_t rfl ?_ | refine if_f rfl ?_ | refine if_t (by assumption) ?_ | refine if_f (by assumption) ?_ | (refine if_dt ?hc ?_; case hc => first | with_reducible rfl | assumption | omega) | (refine if_df ?hc ?_; case hc => first | with_reducible rfl | assumption | omega) | (refine if_nt ?hc ?_; case hc => first | with_reducible rfl | assumption | omega) | (refine if_nf ?hc ?_; case hc => first | with_reducible rfl | assumption | omega))
local macro_rules | `(tactic| walk_at "s1") => `(tactic| first
  | refine dss_nil ?_
  | refine dss_one ?_
  | refine dss_cons ?_)
local macro_rules | `(tactic| walk_at "s2") => `(tactic| first
  | walk_at "as"
  | refine ds_ret ?_
  | refine ds_sub ?_
  | refine ds_if ?_
  | refine ds_expr ?_
  | refine ds_pass ?_
  | refine ds_retN ?_
  | refine ds_doc ?_
  | refine ds_break ?_
  | refine ds_continue ?_)
local macro_rules | `(tactic| walk_at "as") => `(tactic| (show DS _ _ _ (.Assign [.Name _ _] _ _) _; first
  | refine ds_asg 0 ?_ (by assumption) | refine ds_asg 1 ?_ (by assumption) | refine ds_asg 2 ?_ (by assumption) | refine ds_asg 3 ?_ (by assumption) | refine ds_asg 4 ?_ (by assumption) | refine ds_asg 5 ?_ (by assumption) | refine ds_asg 6 ?_ (by assumption) | refine ds_asg 7 ?_ (by assumption) | refine ds_asg 8 ?_ (by assumption) | refine ds_asg 9 ?_ (by assumption) | refine ds_asg 10 ?_ (by assumption) | refine ds_asg 11 ?_ (by assumption) | refine ds_asg 12 ?_ (by assumption) | refine ds_asg 13 ?_ (by assumption) | refine ds_asg 14 ?_ (by assumption) | refine ds_asg 15 ?_ (by assumption) | refine ds_asg 16 ?_ (by assumption) | refine ds_asg 17 ?_ (by assumption) | refine ds_asg 18 ?_ (by assumption) | refine ds_asg 19 ?_ (by assumption)))
local macro_rules | `(tactic| walk_at "dl") => `(tactic| first
  | (show DE _ _ _ _ _; walk_at "e1")
  | (show BinD _ _ _ _ _ _; walk_at "bi")
  | (show DA _ _ _ _ _; walk_at "a1")
  | (show CallD _ _ _ _ _; walk_at "ca")
  | (show DSs _ _ _ _ _; (try walk_at "tn"); walk_at "s1")
  | (show DS _ _ _ _ _; walk_at "s2")
  | (show DT _ _ _ _ _; walk_at "t1")
  | (show DWh _ _ _ _ _; walk_at "w1")
  | (show IxD _ _ _ _ _; walk_at "ix")
  | (show SlD _ _ _ _ _ _; walk_at "sl")
  | (show DPa _ _ _ _ _; first | refine dpa_none ?_ | refine dpa_some ?_)
  | (show UnD _ _ _ _ _; refine u_neg ?_)
  | walk_at "p1")
local macro_rules | `(tactic| walk_at "d1") => `(tactic| first
  | (show DE _ _ _ _ _; walk_at "e1")
  | (show BinD _ _ _ _ _ _; walk_at "bi")
  | (show DA _ _ _ _ _; walk_at "a1")
  | (show CallD _ _ _ _ _; walk_at "ca")
  | (show DS _ _ _ _ _; walk_at "s2")
  | (show DT _ _ _ _ _; walk_at "t1")
  | (show DWh _ _ _ _ _; walk_at "w1")
  | (show IxD _ _ _ _ _; walk_at "ix")
  | (show SlD _ _ _ _ _ _; walk_at "sl")
  | (show DPa _ _ _ _ _; first | refine dpa_none ?_ | refine dpa_some ?_)
  | (show UnD _ _ _ _ _; refine u_neg ?_)
  | walk_at "p1")
local macro_rules | `(tactic| walk_at "go") => `(tactic| repeat (walk_at "dl"))
local macro_rules | `(tactic| walk_at "st") => `(tactic| ((try walk_at "tn"); refine dss_cons ?_; repeat (walk_at "d1")))
local macro_rules | `(tactic| walk_at "ar") => `(tactic| repeat (first | (show DE _ _ _ _ _; walk_at "e1") | (show DA _ _ _ _ _; walk_at "a1") | walk_at "p1"))
local macro_rules | `(tactic| walk_at "ao") => `(tactic| repeat (first | refine de_lstO ?_ | (show DE _ _ _ _ _; walk_at "e1") | (show DA _ _ _ _ _; walk_at "a1") | walk_at "p1"))

namespace K60
open PK SX VO SM WL ND
section
variable {P : Program} {w : World} {K : PySem.W.Frag} {mg : Str → Option Value} {base : Heap} {f : Addr} {fd : FuncData}
section
local macro_rules | `(tactic| walk_at "nm") => `(tactic| first
  | ((with_reducible refine name_tag "script" ?_); refine de_name 0 rfl ?_)
  | ((with_reducible refine name_tag "k" ?_); refine de_name 1 rfl ?_)
  | ((with_reducible refine name_tag "cell" ?_); refine de_name 2 rfl ?_)
  | ((with_reducible refine name_tag "first" ?_); refine de_name 3 rfl ?_)
  | ((with_reducible refine name_tag "second" ?_); refine de_name 4 rfl ?_))
local macro_rules | `(tactic| walk_at "tn") => `(tactic| show DSs _ [_, _, _, _, _] _ _ _)
theorem ok_law_number (F : Fun K "_law_number" "_law_number" s_law_number f fd) (G : Glb K mg) : FnOk P w K mg base CX0 1 f fd ["script", "k"] (spD K 2 pNumber) := by
  refine fn_dl F sc_law_number fun cdv A outer s H E hr ws O Q hl hp => ?_
  obtain ⟨ns, k, rfl, hn, hk0, hk1, hp⟩ := hp
  have nd := sc_law_number.nd
  obtain ⟨g1, g2, g3, g4, g5, g6, g7, g8, g9, g10, g11⟩ := G
  walk_at "st"
  refine dss_mid (fun τ' O' => O' = O ∧ ∃ c : Int, τ' = [some (.s (.list (ns.map .int))), some (.d (.int k)), some (.d (.int c)), none, none]) ?_ ?_
  · walk_at "go"
    refine if_d2 (fun h => ?_) (fun h => ?_)
    · walk_at "go"
      refine ix_script (at_intsS (Int.emod_nonneg _ (by omega)) (by rw [List.length_map] at h ⊢; exact Int.emod_lt_of_pos _ h)) ?_
      walk_at "go"
      exact ⟨rfl, _, rfl⟩
    · walk_at "go"
      exact ⟨rfl, 0, rfl⟩
  rintro τ' O' ⟨rfl, c, rfl⟩
  refine dss_mid (fun τ' O'' => O'' = O' ∧ ∃ c : Int, τ' = [some (.s (.list (ns.map .int))), some (.d (.int k)), some (.d (.int c)), none, none]) ?_ ?_
  · walk_at "go"
    refine if_d2 (fun h => ?_) (fun h => ?_)
    · walk_at "go"
      exact ⟨rfl, _, rfl⟩
    · walk_at "go"
      exact ⟨rfl, c, rfl⟩
  rintro τ' O'' ⟨rfl, c, rfl⟩
  refine dss_mid (fun τ' O' => O' = O'' ∧ τ' = [some (.s (.list (ns.map .int))), some (.d (.int k)), some (.d (.int c)), none, none]) ?_ ?_
  · walk_at "go"
    refine if_d2 (fun h => ?_) (fun h => ?_)
    · walk_at "go"
      refine if_d2 (fun h => ?_) (fun h => ?_)
      · walk_at "go"
        exact hp _
      · walk_at "go"
        exact ⟨rfl, rfl⟩
    · walk_at "go"
      exact ⟨rfl, rfl⟩
  rintro τ' O' ⟨rfl, rfl⟩
  walk_at "go"
  exact hp _
end

section
local macro_rules | `(tactic| walk_at "nm") => `(tactic| first
  | ((with_reducible refine name_tag "box" ?_); refine de_name 0 rfl ?_)
  | ((with_reducible refine name_tag "size" ?_); refine de_name 1 rfl ?_)
  | ((with_reducible refine name_tag "digit" ?_); refine de_name 2 rfl ?_))
local macro_rules | `(tactic| walk_at "tn") => `(tactic| show DSs _ [_, _, _] _ _ _)
theorem ok_law_take (F : Fun K "_law_take" "_law_take" s_law_take f fd) (G : Glb K mg) : FnOk P w K mg base CX0 1 f fd ["box", "size"] (spD K 2 pTake) := by
  refine fn_dl F sc_law_take fun cdv A outer s H E hr ws O Q hl hp => ?_
  obtain ⟨j, p, n, z, rfl, hb, hz0, hz1, hp⟩ := hp
  have nd := sc_law_take.nd
  obtain ⟨g1, g2, g3, g4, g5, g6, g7, g8, g9, g10, g11⟩ := G
  walk_at "go"
  refine ix_l (rdlo j hb) at0 ?_
  walk_at "go"
  refine ix_l (rdlo j hb) at0 ?_
  walk_at "go"
  refine b_fdiv (cdivw hz0 (Nat.lt_of_lt_of_le (show z.natAbs < 2 ^ 63 by omega) (by decide))) ?_
  walk_at "go"
  refine ⟨p, j, _, 0, 0, _, rfl, rfl, rfl, hb, rfl, ?_⟩
  walk_at "go"
  exact hp
end

end
end K60

namespace K60
open PK SX VO SM WL ND
section
variable {P : Program} {w : World} {K : PySem.W.Frag} {mg : Str → Option Value} {base : Heap} {f : Addr} {fd : FuncData}
/-! ### vectors and a client -/
theorem zipD_lenC {xs ys : List Int} (h : xs.length ≤ 1000) : (zipD (xs.map PyData.int) (ys.map PyData.int)).length < sizeLine := zipD_len8 h
abbrev p_covers : Pre := fun ws O P => ∃ (xs ys : List Int), ws = [.d (vec xs), .d (vec ys)] ∧ xs.length ≤ 1000 ∧ P (.d (.bool (covN xs ys))) O
theorem covers_i {O : Own} {P : DL.W → Own → Prop} {xs ys : List Int} (hl : xs.length ≤ 1000) (h : P (.d (.bool (covN xs ys))) O) : p_covers [.d (vec xs), .d (vec ys)] O P := ⟨xs, ys, rfl, hl, h⟩
section
local macro_rules | `(tactic| walk_at "nm") => `(tactic| first
  | ((with_reducible refine name_tag "vector" ?_); refine de_name 0 rfl ?_)
  | ((with_reducible refine name_tag "other" ?_); refine de_name 1 rfl ?_)
  | ((with_reducible refine name_tag "number" ?_); refine de_name 2 rfl ?_)
  | ((with_reducible refine name_tag "least_wanted" ?_); refine de_name 3 rfl ?_))
local macro_rules | `(tactic| walk_at "tn") => `(tactic| show DSs _ [_, _, _, _] _ _ _)
theorem ok_covers (F : Fun K "covers" "covers" s_covers f fd) (G : Glb K mg) : FnOk P w K mg base CX0 1 f fd ["vector", "other"] (spD K 2 p_covers) := by
  refine fn_dl F sc_covers fun cdv A outer s H E hr ws O Q hl hp => ?_
  obtain ⟨xs, ys, rfl, hx, hp⟩ := hp
  have nd := sc_covers.nd
  obtain ⟨g1, g2, g3, g4, g5, g6, g7, g8, g9, g10, g11⟩ := G
  walk_at "go"
  refine de_lc2 2 3 nd (blkOk_by (N := ["vector", "other", "number", "least_wanted"]) (sc := defScope s_covers) (by decide +kernel)) (it_zipT (by assumption) ?_)
  walk_at "go"
  refine ⟨_, _, rfl, rfl, lcd_map (pairF fun a b => .bool (decide (b ≤ a))) (zipD_lenC hx) (fun i d hd => ?_) (fun p => ?_)⟩
  · obtain ⟨a, b, rfl⟩ := zipD_at hd
    refine ⟨_, tgok_pair 2 3 (by decide) (by decide), fun p acc s H C cl fp => ?_⟩
    walk_at "go"
    exact ⟨rfl, rfl⟩
  · walk_at "go"
    refine c_all (bs := (List.zip xs ys).map fun p => decide (p.2 ≤ p.1)) rfl (by rw [zipD_pairB]; exact rdl) ?_
    simpa [covN] using hp
end
abbrev p_joined : Pre := fun ws O P => ∃ (xs ys : List Int), ws = [.d (vec xs), .d (vec ys)] ∧ xs.length ≤ 1000 ∧ P (.d (vec (joinN xs ys))) O
theorem joined_i {O : Own} {P : DL.W → Own → Prop} {xs ys : List Int} (hl : xs.length ≤ 1000) (h : P (.d (vec (joinN xs ys))) O) : p_joined [.d (vec xs), .d (vec ys)] O P := ⟨xs, ys, rfl, hl, h⟩
section
local macro_rules | `(tactic| walk_at "nm") => `(tactic| first
  | ((with_reducible refine name_tag "vector" ?_); refine de_name 0 rfl ?_)
  | ((with_reducible refine name_tag "other" ?_); refine de_name 1 rfl ?_)
  | ((with_reducible refine name_tag "pair" ?_); refine de_name 2 rfl ?_))
local macro_rules | `(tactic| walk_at "tn") => `(tactic| show DSs _ [_, _, _] _ _ _)
theorem ok_joined (F : Fun K "joined" "joined" s_joined f fd) (G : Glb K mg) : FnOk P w K mg base CX0 1 f fd ["vector", "other"] (spD K 2 p_joined) := by
  refine fn_dl F sc_joined fun cdv A outer s H E hr ws O Q hl hp => ?_
  obtain ⟨xs, ys, rfl, hx, hp⟩ := hp
  have nd := sc_joined.nd
  obtain ⟨g1, g2, g3, g4, g5, g6, g7, g8, g9, g10, g11⟩ := G
  walk_at "go"
  refine de_lc1 2 nd (blkOk_by (N := ["vector", "other", "pair"]) (sc := defScope s_joined) (by decide +kernel)) (DZ.it_zip1 (by assumption) ?_)
  walk_at "go"
  refine ⟨_, _, rfl, rfl, lcd_map (pairF fun a b => .int (max a b)) (zipD_lenC hx) (fun i d hd => ?_) (fun p => ?_)⟩
  · obtain ⟨a, b, rfl⟩ := zipD_at hd
    refine ⟨_, tgok_name 2 (by decide), fun p acc s H C cl fp => ?_⟩
    walk_at "go"
    exact ⟨rfl, rfl⟩
  · walk_at "go"
    rw [zipD_pairF]
    have e : (xs.zip ys).map (fun p => max p.1 p.2) = joinN xs ys := by
      unfold joinN
      rw [List.zip, List.map_zipWith]
    rw [e]
    exact hp
end
/-- what the class of clients must say -/
structure ClF (K : PySem.W.Frag) (C : Addr) : Prop where
  c : Cls K C
  nt : NoAttr K C "token"
abbrev cfl (v : List Int) : List (Str × DL.W) := [("token", .d (vec v))]
theorem cf_look (v : List Int) : (cfl v).lookup ("token" : Str) = some (.d (vec v)) := by
  have e : (("token" : Str) == ("token" : Str)) = true := beq_self_eq_true _
  simp only [List.lookup, e]
theorem cf_put (v u : List Int) : putW ("token" : Str) (.d (vec u)) (cfl v) = cfl u := if_pos rfl
theorem cf_no {v : List Int} {m : Str} (h : (m == ("token" : Str)) = false) : (cfl v).lookup m = none := by simp only [List.lookup, h]
abbrev p_cinit (C : Addr) : Pre := fun ws O P => ∃ (a dx : Addr) (O1 : Own), ws = [.r (.ref a)] ∧ O = (a, .x (insC C dx [])) :: (dx, .o (.own a)) :: O1 ∧ P (.d .none) ((a, .x (insC C dx (cfl zero8))) :: (dx, .o (.own a)) :: O1)
section
local macro_rules | `(tactic| walk_at "nm") => `(tactic| first
  | ((with_reducible refine name_tag "self" ?_); refine de_name 0 rfl ?_))
local macro_rules | `(tactic| walk_at "tn") => `(tactic| show DSs _ [_] _ _ _)
theorem ok_Client_init {C : Addr} (F : Fun K "__init__" "Client.__init__" s_Client_init f fd) (G : Glb K mg) (BF : ClF K C) : FnOk P w K mg base CX0 1 f fd ["self"] (spD K 1 (p_cinit C)) := by
  refine fn_dl F sc_Client_init fun cdv A outer s H E hr ws O Q hl hp => ?_
  obtain ⟨a, dx, O1, rfl, rfl, hp⟩ := hp
  have nd := sc_Client_init.nd
  obtain ⟨g1, g2, g3, g4, g5, g6, g7, g8, g9, g10, g11⟩ := G
  refine dss_one (ds_fld BF.c BF.nt ?_)
  walk_at "go"
  refine ⟨a, 0, dx, _, rfl, rfl, by decide, ?_⟩
  exact hp
end
abbrev p_mayask (C : Addr) : Pre := fun ws O P => ∃ (a dx : Addr) (j : Nat) (t v : List Int), ws = [.r (.ref a), .d (vec v)] ∧ O[j]? = some (a, .x (insC C dx (cfl t))) ∧ v.length ≤ 1000 ∧ P (.d (.bool (covN v t))) O
section
local macro_rules | `(tactic| walk_at "nm") => `(tactic| first
  | ((with_reducible refine name_tag "self" ?_); refine de_name 0 rfl ?_)
  | ((with_reducible refine name_tag "vector" ?_); refine de_name 1 rfl ?_))
local macro_rules | `(tactic| walk_at "tn") => `(tactic| show DSs _ [_, _] _ _ _)
theorem ok_Client_may_ask {C : Addr} (F : Fun K "may_ask" "Client.may_ask" s_Client_may_ask f fd) (G : Glb K mg) (BF : ClF K C) (d1 : Def P w K mg base 1 "covers" 2 p_covers) : FnOk P w K mg base CX0 2 f fd ["self", "vector"] (spD K 2 (p_mayask C)) := by
  refine fn_dl F sc_Client_may_ask fun cdv A outer s H E hr ws O Q hl hp => ?_
  obtain ⟨a, dx, j, t, v, rfl, hj, hv, hp⟩ := hp
  have nd := sc_Client_may_ask.nd
  obtain ⟨g1, g2, g3, g4, g5, g6, g7, g8, g9, g10, g11⟩ := G
  refine dss_one (ds_ret (de_call d1 (hr.mono (by decide)) (da_cons (de_name 1 rfl (da_cons (de_fld BF.c BF.nt (de_name 0 rfl ⟨a, j, dx, cfl t, _, rfl, hj, cf_look t, ?_⟩)))))))
  exact da_nil ⟨rfl, covers_i hv hp⟩
end
abbrev p_saw (C : Addr) : Pre := fun ws O P => ∃ (a dx : Addr) (j : Nat) (t v : List Int), ws = [.r (.ref a), .d (vec v)] ∧ O[j]? = some (a, .x (insC C dx (cfl t))) ∧ t.length ≤ 1000 ∧ P (.d .none) (O.set j (a, .x (insC C dx (cfl (joinN t v)))))
section
local macro_rules | `(tactic| walk_at "nm") => `(tactic| first
  | ((with_reducible refine name_tag "self" ?_); refine de_name 0 rfl ?_)
  | ((with_reducible refine name_tag "vector" ?_); refine de_name 1 rfl ?_))
local macro_rules | `(tactic| walk_at "tn") => `(tactic| show DSs _ [_, _] _ _ _)
theorem ok_Client_saw {C : Addr} (F : Fun K "saw" "Client.saw" s_Client_saw f fd) (G : Glb K mg) (BF : ClF K C) (d1 : Def P w K mg base 1 "joined" 2 p_joined) : FnOk P w K mg base CX0 2 f fd ["self", "vector"] (spD K 2 (p_saw C)) := by
  refine fn_dl F sc_Client_saw fun cdv A outer s H E hr ws O Q hl hp => ?_
  obtain ⟨a, dx, j, t, v, rfl, hj, hv, hp⟩ := hp
  have nd := sc_Client_saw.nd
  obtain ⟨g1, g2, g3, g4, g5, g6, g7, g8, g9, g10, g11⟩ := G
  refine dss_one (ds_fld BF.c BF.nt (de_call d1 (hr.mono (by decide)) (da_cons (de_fld BF.c BF.nt (de_name 0 rfl ⟨a, j, dx, cfl t, _, rfl, hj, cf_look t, ?_⟩)))))
  refine da_cons (de_name 1 rfl (da_nil ⟨rfl, joined_i hv ?_⟩))
  refine de_name 0 rfl ⟨a, j, dx, cfl t, rfl, hj, show 1 < 1000 by decide, ?_⟩
  rw [cf_put]
  exact hp
end

end
end K60

namespace K60
open PK SX VO SM WL ND
section
variable {P : Program} {w : World} {K : PySem.W.Frag} {mg : Str → Option Value} {base : Heap} {f : Addr} {fd : FuncData}
/-! ### mail -/
structure MailF (K : PySem.W.Frag) (C : Addr) : Prop where
  c : Cls K C
  n1 : NoAttr K C "_next"
  n2 : NoAttr K C "_messages"
  n3 : NoAttr K C "_cut_links"
structure Ml where
  a : Addr
  dx : Addr
  pm : Addr
  pc : Addr
  n : Int
  M : List (Key × PyData)
  D : List (Int × Int)
def mfl (m : Ml) : List (Str × DL.W) := [("_next", .d (.int m.n)), ("_messages", .r (.ref m.pm)), ("_cut_links", .r (.ref m.pc))]
def cutsN (D : List (Int × Int)) : List (NKey × DL.W) := D.map fun d => (nk2 d, .d (.bool true))
def mcells (P : Program) (w : World) (C : Addr) (m : Ml) : Own := [(m.pc, .x (NXc P w (cutsN m.D))), (m.pm, .k m.M), (m.a, .x (insC C m.dx (mfl m)))]
theorem lm_at {k : Str} {v : DL.W} {r : List (Str × DL.W)} : List.lookup k ((k, v) :: r) = some v := by
  have e : (k == k) = true := beq_self_eq_true k
  simp only [List.lookup, e]
theorem lm_on {k g : Str} {v : DL.W} {r : List (Str × DL.W)} (h : (k == g) = false) : List.lookup k ((g, v) :: r) = List.lookup k r := by simp only [List.lookup, h]
theorem ml_n (m : Ml) : (mfl m).lookup ("_next" : Str) = some (.d (.int m.n)) := lm_at
theorem ml_m (m : Ml) : (mfl m).lookup ("_messages" : Str) = some (.r (.ref m.pm)) := (lm_on (by decide +kernel)).trans lm_at
theorem ml_c (m : Ml) : (mfl m).lookup ("_cut_links" : Str) = some (.r (.ref m.pc)) := (lm_on (by decide +kernel)).trans ((lm_on (by decide +kernel)).trans lm_at)
theorem ml_no {f : Str} (m : Ml) (h1 : (f == ("_next" : Str)) = false) (h2 : (f == ("_messages" : Str)) = false) (h3 : (f == ("_cut_links" : Str)) = false) : (mfl m).lookup f = none := (lm_on h1).trans ((lm_on h2).trans ((lm_on h3).trans rfl))
theorem ml_put (m : Ml) (n : Int) : putW ("_next" : Str) (.d (.int n)) (mfl m) = mfl { m with n := n } := if_pos rfl
theorem ml_new (w1 w2 w3 : DL.W) : putW ("_cut_links" : Str) w3 (putW ("_messages" : Str) w2 (putW ("_next" : Str) w1 [])) = [(("_next" : Str), w1), (("_messages" : Str), w2), (("_cut_links" : Str), w3)] := by
  have n1 : ¬ (("_next" : Str) = ("_messages" : Str)) := by decide +kernel
  have n2 : ¬ (("_next" : Str) = ("_cut_links" : Str)) := by decide +kernel
  have n3 : ¬ (("_messages" : Str) = ("_cut_links" : Str)) := by decide +kernel
  have on : ∀ {f g : Str} {v x : DL.W} {r : List (Str × DL.W)}, ¬ g = f → putW f v ((g, x) :: r) = (g, x) :: putW f v r := fun h => if_neg h
  show putW _ w3 (putW _ w2 [(("_next" : Str), w1)]) = _
  rw [on n1]
  show putW _ w3 [(("_next" : Str), w1), (("_messages" : Str), w2)] = _
  rw [on n2, on n3]
  rfl
section
variable (A B : Own) (m : Ml) {C : Addr}
theorem mc0 : (A ++ (mcells P w C m ++ B))[A.length]? = some (m.pc, .x (NXc P w (cutsN m.D))) := by simp [mcells]
theorem mc1 : (A ++ (mcells P w C m ++ B))[A.length + 1]? = some (m.pm, .k m.M) := by simp [mcells]
theorem mc2 : (A ++ (mcells P w C m ++ B))[A.length + 2]? = some (m.a, .x (insC C m.dx (mfl m))) := by simp [mcells]
theorem ms0 (D : List (Int × Int)) : (A ++ (mcells P w C m ++ B)).set A.length (m.pc, .x (NXc P w (cutsN D))) = A ++ (mcells P w C { m with D := D } ++ B) := by
  rw [List.set_append_right _ _ (Nat.le_refl _), Nat.sub_self]
  rfl
theorem ms1 (M : List (Key × PyData)) : (A ++ (mcells P w C m ++ B)).set (A.length + 1) (m.pm, .k M) = A ++ (mcells P w C { m with M := M } ++ B) := by
  rw [List.set_append_right _ _ (by omega), show A.length + 1 - A.length = 1 by omega]
  rfl
theorem ms2 (n : Int) : (A ++ (mcells P w C m ++ B)).set (A.length + 2) (m.a, .x (insC C m.dx (mfl { m with n := n }))) = A ++ (mcells P w C { m with n := n } ++ B) := by
  rw [List.set_append_right _ _ (by omega), show A.length + 2 - A.length = 2 by omega]
  rfl
end
abbrev p_minit (P : Program) (w : World) (C : Addr) : Pre := fun ws O Q => ∃ (a dx : Addr) (O1 : Own), ws = [.r (.ref a)] ∧ O = (a, .x (insC C dx [])) :: (dx, .o (.own a)) :: O1 ∧ ∀ pm pc : Addr, Q (.d .none) (mcells P w C ⟨a, dx, pm, pc, 0, [], []⟩ ++ ((dx, .o (.own a)) :: O1))
section
local macro_rules | `(tactic| walk_at "nm") => `(tactic| first
  | ((with_reducible refine name_tag "self" ?_); refine de_name 0 rfl ?_))
local macro_rules | `(tactic| walk_at "tn") => `(tactic| show DSs _ [_] _ _ _)
theorem ok_Mail_init {C : Addr} (F : Fun K "__init__" "Mail.__init__" s_Mail_init f fd) (G : Glb K mg) (BF : MailF K C) : FnOk P w K mg base CX0 1 f fd ["self"] (spD K 1 (p_minit P w C)) := by
  refine fn_dl F sc_Mail_init fun cdv A outer s H E hr ws O Q hl hp => ?_
  obtain ⟨a, dx, O1, rfl, rfl, hp⟩ := hp
  have nd := sc_Mail_init.nd
  obtain ⟨g1, g2, g3, g4, g5, g6, g7, g8, g9, g10, g11⟩ := G
  refine dss_cons (ds_fld BF.c BF.n1 ?_)
  walk_at "go"
  refine ⟨a, 0, dx, _, rfl, rfl, by decide, ?_⟩
  show DSs _ _ _ _ _
  refine dss_cons (ds_fld BF.c BF.n2 (de_dnewK fun pm => ?_))
  refine de_name 0 rfl ⟨a, 1, dx, _, rfl, rfl, (show 1 < 1000 by decide), ?_⟩
  show DSs _ _ _ _ _
  refine dss_one (ds_fld BF.c BF.n3 (de_nnew fun pc => ?_))
  refine de_name 0 rfl ⟨a, 2, dx, _, rfl, rfl, ?_, ?_⟩
  · refine Nat.lt_of_le_of_lt (m := 2) ?_ (by decide)
    have n1 : ¬ (("_next" : Str) = ("_messages" : Str)) := by decide +kernel
    show (putW ("_messages" : Str) _ [(("_next" : Str), _)]).length ≤ 2
    unfold putW
    rw [if_neg n1]
    exact Nat.le_refl 2
  rw [ml_new]
  exact hp pm pc
end
abbrev p_mput (P : Program) (w : World) (C : Addr) : Pre := fun ws O Q => ∃ (A B : Own) (m : Ml) (s r b : PyData), ws = [.r (.ref m.a), .d s, .d r, .d b] ∧ O = A ++ (mcells P w C m ++ B) ∧ m.M.length < 1000 ∧ Q (.d (.int m.n)) (A ++ (mcells P w C { m with n := m.n + 1, M := putD m.M (.inl m.n) (.tuple [s, r, b]) } ++ B))
section
local macro_rules | `(tactic| walk_at "nm") => `(tactic| first
  | ((with_reducible refine name_tag "self" ?_); refine de_name 0 rfl ?_)
  | ((with_reducible refine name_tag "sender" ?_); refine de_name 1 rfl ?_)
  | ((with_reducible refine name_tag "receiver" ?_); refine de_name 2 rfl ?_)
  | ((with_reducible refine name_tag "body" ?_); refine de_name 3 rfl ?_)
  | ((with_reducible refine name_tag "number" ?_); refine de_name 4 rfl ?_))
local macro_rules | `(tactic| walk_at "tn") => `(tactic| show DSs _ [_, _, _, _, _] _ _ _)
theorem ok_Mail_put {C : Addr} (F : Fun K "put" "Mail.put" s_Mail_put f fd) (G : Glb K mg) (BF : MailF K C) : FnOk P w K mg base CX0 1 f fd ["self", "sender", "receiver", "body"] (spD K 4 (p_mput P w C)) := by
  refine fn_dl F sc_Mail_put fun cdv Ar outer s H E hr ws O Q hl hp => ?_
  obtain ⟨A, B, m, sn, rc, bd, rfl, rfl, hM, hp⟩ := hp
  have nd := sc_Mail_put.nd
  obtain ⟨g1, g2, g3, g4, g5, g6, g7, g8, g9, g10, g11⟩ := G
  have hu := WL.Room.u1 hr
  refine dss_cons (ds_asg 4 (de_fld BF.c BF.n1 (de_name 0 rfl ⟨m.a, _, m.dx, mfl m, _, rfl, mc2 A B m, ml_n m, ?_⟩)) nd)
  show DSs _ _ _ _ _
  refine dss_cons (ds_augF BF.c BF.n1 (de_name 0 rfl ⟨m.a, A.length + 2, m.dx, mfl m, m.n, rfl, mc2 A B m, ml_n m, de_int ⟨1, rfl, mc2 A B m, (show 3 < 1000 by decide), ?_⟩⟩))
  rw [ml_put, ms2]
  show DSs _ _ _ _ _
  refine dss_cons (ds_subK hu ?_)
  walk_at "go"
  refine de_fld BF.c BF.n2 (de_name 0 rfl ⟨m.a, A.length + 2, m.dx, mfl { m with n := m.n + 1 }, _, rfl, mc2 A B { m with n := m.n + 1 }, ml_m { m with n := m.n + 1 }, ?_⟩)
  walk_at "go"
  refine ⟨m.pm, A.length + 1, m.M, .inl m.n, _, rfl, rfl, rfl, mc1 A B { m with n := m.n + 1 }, by rw [sizeLine_eq]; omega, ?_⟩
  rw [show (m.pm, Cell.k (putD m.M (.inl m.n) (.tuple [sn, rc, bd]))) = (({ m with n := m.n + 1 } : Ml).pm, Cell.k (putD m.M (.inl m.n) (.tuple [sn, rc, bd]))) from rfl, ms1 A B { m with n := m.n + 1 }]
  show DSs _ _ _ _ _
  refine dss_one (ds_ret (de_name 4 rfl ?_))
  exact hp
end
abbrev p_mcut (P : Program) (w : World) (C : Addr) : Pre := fun ws O Q => ∃ (A B : Own) (m : Ml) (d : Int × Int), ws = [.r (.ref m.a), .d (.int d.1), .d (.int d.2)] ∧ O = A ++ (mcells P w C m ++ B) ∧ m.D.length < 1000 ∧ Q (.d .none) (A ++ (mcells P w C { m with D := if d ∈ m.D then m.D else m.D ++ [d] } ++ B))
theorem nk2_inj {a b : Int × Int} (h : nk2 a = nk2 b) : a = b := by
  unfold nk2 at h
  simp only [Option.some.injEq, List.cons.injEq, Sum.inl.injEq, and_true] at h
  exact Prod.ext h.1 h.2
theorem cuts_get (D : List (Int × Int)) (d : Int × Int) : nget (cutsN D) (nk2 d) = if d ∈ D then some (.d (.bool true)) else none := by
  unfold nget cutsN
  induction D with
  | nil => rfl
  | cons x D ih =>
    rw [List.map_cons]
    by_cases c : x = d
    · subst c
      rw [List.find?_cons_of_pos (by simp), if_pos List.mem_cons_self]
      rfl
    · rw [List.find?_cons_of_neg (by simpa using fun q => c (nk2_inj q)), ih]
      by_cases q : d ∈ D
      · rw [if_pos q, if_pos (List.mem_cons_of_mem _ q)]
      · rw [if_neg q, if_neg (by simp only [List.mem_cons, not_or]; exact ⟨fun z => c z.symm, q⟩)]
theorem cuts_put (D : List (Int × Int)) (d : Int × Int) : nput (cutsN D) (nk2 d) (.d (.bool true)) = cutsN (if d ∈ D then D else D ++ [d]) := by
  unfold nput
  rw [cuts_get]
  by_cases c : d ∈ D
  · rw [if_pos c, if_pos c, if_pos (show (some (DL.W.d (PyData.bool true))).isSome = true from rfl)]
    unfold cutsN
    rw [List.map_map]
    refine List.map_congr_left fun x _ => ?_
    show nput1 (nk2 d) (.d (.bool true)) (nk2 x, .d (.bool true)) = _
    unfold nput1
    split <;> rfl
  · rw [if_neg c, if_neg c, if_neg (by simp)]
    unfold cutsN
    rw [List.map_append]
    rfl
theorem nk2_d (d : Int × Int) : nkD (nk2 d) = .tuple [.int d.1, .int d.2] := rfl
section
local macro_rules | `(tactic| walk_at "nm") => `(tactic| first
  | ((with_reducible refine name_tag "self" ?_); refine de_name 0 rfl ?_)
  | ((with_reducible refine name_tag "sender" ?_); refine de_name 1 rfl ?_)
  | ((with_reducible refine name_tag "receiver" ?_); refine de_name 2 rfl ?_))
local macro_rules | `(tactic| walk_at "tn") => `(tactic| show DSs _ [_, _, _] _ _ _)
theorem ok_Mail_cut {C : Addr} (F : Fun K "cut" "Mail.cut" s_Mail_cut f fd) (G : Glb K mg) (BF : MailF K C) : FnOk P w K mg base CX0 1 f fd ["self", "sender", "receiver"] (spD K 3 (p_mcut P w C)) := by
  refine fn_dl F sc_Mail_cut fun cdv Ar outer s H E hr ws O Q hl hp => ?_
  obtain ⟨A, B, m, d, rfl, rfl, hD, hp⟩ := hp
  have nd := sc_Mail_cut.nd
  obtain ⟨g1, g2, g3, g4, g5, g6, g7, g8, g9, g10, g11⟩ := G
  have hu := WL.Room.u1 hr
  refine dss_one (ds_subN hu ?_)
  walk_at "go"
  refine de_fld BF.c BF.n3 (de_name 0 rfl ⟨m.a, A.length + 2, m.dx, mfl m, _, rfl, mc2 A B m, ml_c m, ?_⟩)
  walk_at "go"
  refine ⟨m.pc, A.length, cutsN m.D, nk2 d, rfl, rfl, mc0 A B m, by unfold cutsN; rw [List.length_map, sizeLine_eq]; omega, ?_⟩
  rw [cuts_put]
  refine Eq.mpr (congrArg (Q (.d .none)) (ms0 A B m _)) ?_
  exact hp
end
theorem cuts_drop (D : List (Int × Int)) (d : Int × Int) : ndrop (cutsN D) (nk2 d) = cutsN (D.filter fun x => decide (x ≠ d)) := by
  unfold ndrop cutsN
  rw [List.filter_map]
  refine congrArg _ (List.filter_congr fun x _ => ?_)
  show (!decide (nk2 x = nk2 d)) = decide (x ≠ d)
  by_cases c : x = d
  · subst c
    simp
  · have : ¬ nk2 x = nk2 d := fun q => c (nk2_inj q)
    simp [c, this]
theorem cuts_tup (D : List (Int × Int)) : ∀ r ∈ cutsN D, r.1.isSome = true := fun r hr => by
  obtain ⟨d, _, rfl⟩ := List.mem_map.mp hr
  rfl
theorem filter_no (D : List (Int × Int)) (d : Int × Int) (h : d ∉ D) : (D.filter fun x => decide (x ≠ d)) = D := List.filter_eq_self.mpr fun x hx => decide_eq_true fun e => h (e ▸ hx)
abbrev p_mheal (P : Program) (w : World) (C : Addr) : Pre := fun ws O Q => ∃ (A B : Own) (m : Ml) (d : Int × Int), ws = [.r (.ref m.a), .d (.int d.1), .d (.int d.2)] ∧ O = A ++ (mcells P w C m ++ B) ∧ Q (.d .none) (A ++ (mcells P w C { m with D := m.D.filter fun x => decide (x ≠ d) } ++ B))
section
local macro_rules | `(tactic| walk_at "nm") => `(tactic| first
  | ((with_reducible refine name_tag "self" ?_); refine de_name 0 rfl ?_)
  | ((with_reducible refine name_tag "sender" ?_); refine de_name 1 rfl ?_)
  | ((with_reducible refine name_tag "receiver" ?_); refine de_name 2 rfl ?_))
local macro_rules | `(tactic| walk_at "tn") => `(tactic| show DSs _ [_, _, _] _ _ _)
theorem ok_Mail_heal {C : Addr} (F : Fun K "heal" "Mail.heal" s_Mail_heal f fd) (G : Glb K mg) (BF : MailF K C) : FnOk P w K mg base CX0 1 f fd ["self", "sender", "receiver"] (spD K 3 (p_mheal P w C)) := by
  refine fn_dl F sc_Mail_heal fun cdv Ar outer s H E hr ws O Q hl hp => ?_
  obtain ⟨A, B, m, d, rfl, rfl, hp⟩ := hp
  have nd := sc_Mail_heal.nd
  obtain ⟨g1, g2, g3, g4, g5, g6, g7, g8, g9, g10, g11⟩ := G
  have hu := WL.Room.u1 hr
  refine dss_one (ds_expr (de_npop hu ?_ ⟨rfl, rfl, rfl, rfl⟩))
  refine de_fld BF.c BF.n3 (de_name 0 rfl ⟨m.a, A.length + 2, m.dx, mfl m, _, rfl, mc2 A B m, ml_c m, ?_⟩)
  refine ⟨m.pc, A.length, _, rfl, mc0 A B m, ?_⟩
  walk_at "go"
  refine ⟨A.length, cutsN m.D, [.inl d.1, .inl d.2], mc0 A B m, rfl, cuts_tup _, fun x hx => ?_, fun hx => ?_⟩
  · show Q (.d .none) _
    refine Eq.mpr (congrArg (fun o => Q (.d .none) o) ?_) hp
    rw [show (some [Sum.inl d.1, Sum.inl d.2] : NKey) = nk2 d from rfl, cuts_drop]
    exact ms0 A B m _
  · have hd : d ∉ m.D := fun q => by
      rw [show (some [Sum.inl d.1, Sum.inl d.2] : NKey) = nk2 d from rfl, cuts_get, if_pos q] at hx
      cases hx
    rw [filter_no _ _ hd] at hp
    exact hp
end
abbrev p_mnums (P : Program) (w : World) (C : Addr) : Pre := fun ws O Q => ∃ (A B : Own) (m : Ml) (ks : List Int), ws = [.r (.ref m.a)] ∧ O = A ++ (mcells P w C m ++ B) ∧ m.M.map (·.1) = ks.map Sum.inl ∧ ks.length < 64 ∧ ∀ (ys : List Int) (q : Addr), ys.Perm ks → ys.Pairwise (· ≤ ·) → Q (.r (.ref q)) ((q, .l (ys.map .int)) :: O)
section
local macro_rules | `(tactic| walk_at "nm") => `(tactic| first
  | ((with_reducible refine name_tag "self" ?_); refine de_name 0 rfl ?_))
local macro_rules | `(tactic| walk_at "tn") => `(tactic| show DSs _ [_] _ _ _)
theorem ok_Mail_numbers {C : Addr} (F : Fun K "numbers" "Mail.numbers" s_Mail_numbers f fd) (G : Glb K mg) (BF : MailF K C) : FnOk P w K mg base CX0 1 f fd ["self"] (spD K 1 (p_mnums P w C)) := by
  refine fn_dl F sc_Mail_numbers fun cdv Ar outer s H E hr ws O Q hl hp => ?_
  obtain ⟨A, B, m, ks, rfl, rfl, hks, hl2, hp⟩ := hp
  have nd := sc_Mail_numbers.nd
  obtain ⟨g1, g2, g3, g4, g5, g6, g7, g8, g9, g10, g11⟩ := G
  refine dss_one (ds_ret (de_callB "sorted" (by assumption) boot_sorted (da_cons (de_fld BF.c BF.n2 (de_name 0 rfl ⟨m.a, A.length + 2, m.dx, mfl m, _, rfl, mc2 A B m, ml_m m, ?_⟩)))))
  exact da_nil (c_sortedKI (A.length + 1) (mc1 A B m) hks hl2 hp)
end
abbrev p_mcuts (P : Program) (w : World) (C : Addr) : Pre := fun ws O Q => ∃ (A B : Own) (m : Ml), ws = [.r (.ref m.a)] ∧ O = A ++ (mcells P w C m ++ B) ∧ m.D.Nodup ∧ ∀ q : Addr, Q (.r (.ref q)) ((q, .l (((m.D.map dot2).mergeSort leP).map encP)) :: O)
section
local macro_rules | `(tactic| walk_at "nm") => `(tactic| first
  | ((with_reducible refine name_tag "self" ?_); refine de_name 0 rfl ?_))
local macro_rules | `(tactic| walk_at "tn") => `(tactic| show DSs _ [_] _ _ _)
theorem ok_Mail_cut_links {C : Addr} (F : Fun K "cut_links" "Mail.cut_links" s_Mail_cut_links f fd) (G : Glb K mg) (BF : MailF K C) : FnOk P w K mg base CX0 1 f fd ["self"] (spD K 1 (p_mcuts P w C)) := by
  refine fn_dl F sc_Mail_cut_links fun cdv Ar outer s H E hr ws O Q hl hp => ?_
  obtain ⟨A, B, m, rfl, rfl, hnd, hp⟩ := hp
  have nd := sc_Mail_cut_links.nd
  obtain ⟨g1, g2, g3, g4, g5, g6, g7, g8, g9, g10, g11⟩ := G
  have hu : (Ar.deeper (envOfC "Mail.cut_links" (defScope s_Mail_cut_links) s.heap.objs.size f cdv)).units + 5 < cLine := by
    have := DL.Room.u65 hr
    omega
  refine dss_one (ds_ret (de_callB "sorted" (by assumption) boot_sorted (da_cons (de_fld BF.c BF.n3 (de_name 0 rfl ⟨m.a, A.length + 2, m.dx, mfl m, _, rfl, mc2 A B m, ml_c m, ?_⟩)))))
  refine da_nil (c_sortedN A.length (kvs := cutsN m.D) (ds := m.D) (mc0 A B m) ?_ hnd hu hp)
  unfold cutsN
  rw [List.map_map]
  rfl
end

end
end K60

namespace K60
open PK SX VO SM WL ND
section
variable {P : Program} {w : World} {K : PySem.W.Frag} {mg : Str → Option Value} {base : Heap} {f : Addr} {fd : FuncData}
/-! ### mail: what may raise -/
abbrev x_look (P : Program) (w : World) (C CN : Addr) : PreX := fun ws O Q QX => ∃ (A B : Own) (m : Ml) (n : Int), ws = [.r (.ref m.a), .d (.int n)] ∧ O = A ++ (mcells P w C m ++ B) ∧ (∀ d, valD m.M (.inl n) = some d → Q (.d d) O) ∧ (valD m.M (.inl n) = none → QX (.ref CN) O)
theorem look_x {C CN : Addr} {A B : Own} {m : Ml} {n : Int} {O : Own} {Q : DL.W → Own → Prop} {QX : Value → Own → Prop} (hO : O = A ++ (mcells P w C m ++ B)) (h1 : ∀ d, valD m.M (.inl n) = some d → Q (.d d) O) (h2 : valD m.M (.inl n) = none → QX (.ref CN) O) : x_look P w C CN [.r (.ref m.a), .d (.int n)] O Q QX := ⟨A, B, m, n, rfl, hO, h1, h2⟩
section
local macro_rules | `(tactic| walk_at "nm") => `(tactic| first
  | ((with_reducible refine name_tag "self" ?_); refine de_name 0 rfl ?_)
  | ((with_reducible refine name_tag "number" ?_); refine de_name 1 rfl ?_))
local macro_rules | `(tactic| walk_at "tn") => `(tactic| show DSs _ [_, _] _ _ _)
theorem ok_Mail_look {C CN : Addr} (F : Fun K "look" "Mail.look" s_Mail_look f fd) (G : Glb K mg) (BF : MailF K C) (EN : ExcN K mg "NoMessage" CN) : FnOk P w K mg base (CX P w) 1 f fd ["self", "number"] (spX K 2 (x_look P w C CN)) := by
  refine fn_dlX F sc_Mail_look fun cdv Ar outer s H E xe hr ws O Q PX hl hp T hpo => ?_
  obtain ⟨A, B, m, n, rfl, rfl, hp, hx⟩ := hp
  have nd := sc_Mail_look.nd
  obtain ⟨g1, g2, g3, g4, g5, g6, g7, g8, g9, g10, g11⟩ := G
  have hu := WL.Room.u1 hr
  refine dss_cons (ds_if (dt_cmp (de_name 1 rfl ?_)))
  refine de_fld BF.c BF.n2 (de_name 0 rfl ⟨m.a, A.length + 2, m.dx, mfl m, _, rfl, mc2 A B m, ml_m m, ?_⟩)
  refine b_niK (k := .inl n) hu ⟨m.pm, A.length + 1, rfl, mc1 A B m⟩ ?_
  cases hv : valD m.M (.inl n) with
  | none =>
    refine tb_i (if_t rfl ?_)
    exact dss_one (ds_raise T.t EN (hx hv))
  | some d =>
    refine tb_i (if_f rfl (dss_nil ?_))
    show DSs _ _ _ _ _
    refine dss_one (ds_ret (de_dget hu ?_))
    refine de_fld BF.c BF.n2 (de_name 0 rfl ⟨m.a, A.length + 2, m.dx, mfl m, _, rfl, mc2 A B m, ml_m m, ?_⟩)
    refine de_name 1 rfl ⟨m.M, .inl n, d, ⟨m.pm, A.length + 1, rfl, mc1 A B m⟩, rfl, hv, ?_⟩
    exact hp d hv
end
abbrev x_lose (P : Program) (w : World) (C CN : Addr) : PreX := fun ws O Q QX => ∃ (A B : Own) (m : Ml) (n : Int), ws = [.r (.ref m.a), .d (.int n)] ∧ O = A ++ (mcells P w C m ++ B) ∧ (∀ d, valD m.M (.inl n) = some d → Q (.d .none) (A ++ (mcells P w C { m with M := dropD m.M (.inl n) } ++ B))) ∧ (valD m.M (.inl n) = none → QX (.ref CN) O)
section
local macro_rules | `(tactic| walk_at "nm") => `(tactic| first
  | ((with_reducible refine name_tag "self" ?_); refine de_name 0 rfl ?_)
  | ((with_reducible refine name_tag "number" ?_); refine de_name 1 rfl ?_))
local macro_rules | `(tactic| walk_at "tn") => `(tactic| show DSs _ [_, _] _ _ _)
theorem ok_Mail_lose {C CN : Addr} (F : Fun K "lose" "Mail.lose" s_Mail_lose f fd) (G : Glb K mg) (BF : MailF K C) (d1 : OMetX P w K mg base 1 C "look" 1 (x_look P w C CN)) : FnOk P w K mg base (CX P w) 2 f fd ["self", "number"] (spX K 2 (x_lose P w C CN)) := by
  refine fn_dlX F sc_Mail_lose fun cdv Ar outer s H E xe hr ws O Q PX hl hp T hpo => ?_
  obtain ⟨A, B, m, n, rfl, rfl, hp, hx⟩ := hp
  have nd := sc_Mail_lose.nd
  obtain ⟨g1, g2, g3, g4, g5, g6, g7, g8, g9, g10, g11⟩ := G
  have hu := WL.Room.u1 hr
  refine dss_cons (ds_expr (de_omX d1 (hr.mono (by decide)) T (de_name 0 rfl ⟨m.a, A.length + 2, m.dx, mfl m, rfl, mc2 A B m, ml_no m (by decide +kernel) (by decide +kernel) (by decide +kernel), da_cons (de_name 1 rfl (da_nil ⟨rfl, look_x rfl (fun d hv => ?_) hx⟩))⟩)))
  show DSs _ _ _ _ _
  refine dss_one (ds_expr (de_dpop1 ?_ ⟨rfl, rfl, rfl, rfl⟩))
  refine de_fld BF.c BF.n2 (de_name 0 rfl ⟨m.a, A.length + 2, m.dx, mfl m, _, rfl, mc2 A B m, ml_m m, ?_⟩)
  refine ⟨m.pm, A.length + 1, m.M, rfl, mc1 A B m, de_name 1 rfl ⟨A.length + 1, m.M, .inl n, d, mc1 A B m, rfl, hv, ?_⟩⟩
  rw [ms1]
  exact hp d hv
end
abbrev x_double (P : Program) (w : World) (C CN : Addr) : PreX := fun ws O Q QX => ∃ (A B : Own) (m : Ml) (n : Int), ws = [.r (.ref m.a), .d (.int n)] ∧ O = A ++ (mcells P w C m ++ B) ∧ m.M.length < 1000 ∧ (∀ d, valD m.M (.inl n) = some d → ∃ s r b, d = .tuple [s, r, b] ∧ Q (.d (.int m.n)) (A ++ (mcells P w C { m with n := m.n + 1, M := putD m.M (.inl m.n) (.tuple [s, r, b]) } ++ B))) ∧ (valD m.M (.inl n) = none → QX (.ref CN) O)
section
local macro_rules | `(tactic| walk_at "nm") => `(tactic| first
  | ((with_reducible refine name_tag "self" ?_); refine de_name 0 rfl ?_)
  | ((with_reducible refine name_tag "number" ?_); refine de_name 1 rfl ?_)
  | ((with_reducible refine name_tag "sender" ?_); refine de_name 2 rfl ?_)
  | ((with_reducible refine name_tag "receiver" ?_); refine de_name 3 rfl ?_)
  | ((with_reducible refine name_tag "body" ?_); refine de_name 4 rfl ?_))
local macro_rules | `(tactic| walk_at "tn") => `(tactic| show DSs _ [_, _, _, _, _] _ _ _)
theorem ok_Mail_double {C CN : Addr} (F : Fun K "double" "Mail.double" s_Mail_double f fd) (G : Glb K mg) (BF : MailF K C) (d1 : OMetX P w K mg base 1 C "look" 1 (x_look P w C CN)) (d2 : OMet P w K mg base 1 C "put" 3 (p_mput P w C)) : FnOk P w K mg base (CX P w) 2 f fd ["self", "number"] (spX K 2 (x_double P w C CN)) := by
  refine fn_dlX F sc_Mail_double fun cdv Ar outer s H E xe hr ws O Q PX hl hp T hpo => ?_
  obtain ⟨A, B, m, n, rfl, rfl, hM, hp, hx⟩ := hp
  have nd := sc_Mail_double.nd
  obtain ⟨g1, g2, g3, g4, g5, g6, g7, g8, g9, g10, g11⟩ := G
  refine dss_cons (ds_asgT (de_omX d1 (hr.mono (by decide)) T (de_name 0 rfl ⟨m.a, A.length + 2, m.dx, mfl m, rfl, mc2 A B m, ml_no m (by decide +kernel) (by decide +kernel) (by decide +kernel), da_cons (de_name 1 rfl (da_nil ⟨rfl, look_x rfl (fun d hv => ?_) hx⟩))⟩)))
  obtain ⟨sn, rc, bd, rfl, hq⟩ := hp d hv
  refine dtg_tup (dtgs_cons (dtg_name 2 (dtgs_cons (dtg_name 3 (dtgs_cons (dtg_name 4 (dtgs_nil ?_) nd)) nd)) nd)) rfl
  show DSs _ _ _ _ _
  refine dss_one (ds_ret (de_om d2 (hr.mono (by decide)) (de_name 0 rfl ⟨m.a, A.length + 2, m.dx, mfl m, rfl, mc2 A B m, ml_no m (by decide +kernel) (by decide +kernel) (by decide +kernel), ?_⟩)))
  refine da_cons (de_name 2 rfl (da_cons (de_name 3 rfl (da_cons (de_name 4 rfl (da_nil ⟨rfl, A, B, m, sn, rc, bd, rfl, rfl, hM, hq⟩))))))
end
abbrev x_check (P : Program) (w : World) (C CN CL : Addr) : PreX := fun ws O Q QX => ∃ (A B : Own) (m : Ml) (n : Int), ws = [.r (.ref m.a), .d (.int n)] ∧ O = A ++ (mcells P w C m ++ B) ∧ (∀ d, valD m.M (.inl n) = some d → ∃ (e : Int × Int) (b : PyData), d = .tuple [.int e.1, .int e.2, b] ∧ (e ∉ m.D → Q (.d .none) O) ∧ (e ∈ m.D → QX (.ref CL) O)) ∧ (valD m.M (.inl n) = none → QX (.ref CN) O)
section
local macro_rules | `(tactic| walk_at "nm") => `(tactic| first
  | ((with_reducible refine name_tag "self" ?_); refine de_name 0 rfl ?_)
  | ((with_reducible refine name_tag "number" ?_); refine de_name 1 rfl ?_)
  | ((with_reducible refine name_tag "sender" ?_); refine de_name 2 rfl ?_)
  | ((with_reducible refine name_tag "receiver" ?_); refine de_name 3 rfl ?_)
  | ((with_reducible refine name_tag "_" ?_); refine de_name 4 rfl ?_))
local macro_rules | `(tactic| walk_at "tn") => `(tactic| show DSs _ [_, _, _, _, _] _ _ _)
theorem ok_Mail_check_link {C CN CL : Addr} (F : Fun K "check_link" "Mail.check_link" s_Mail_check_link f fd) (G : Glb K mg) (BF : MailF K C) (EL : ExcN K mg "LinkCut" CL) (d1 : OMetX P w K mg base 1 C "look" 1 (x_look P w C CN)) : FnOk P w K mg base (CX P w) 2 f fd ["self", "number"] (spX K 2 (x_check P w C CN CL)) := by
  refine fn_dlX F sc_Mail_check_link fun cdv Ar outer s H E xe hr ws O Q PX hl hp T hpo => ?_
  obtain ⟨A, B, m, n, rfl, rfl, hp, hx⟩ := hp
  have nd := sc_Mail_check_link.nd
  obtain ⟨g1, g2, g3, g4, g5, g6, g7, g8, g9, g10, g11⟩ := G
  have hu := WL.Room.u1 hr
  refine dss_cons (ds_asgT (de_omX d1 (hr.mono (by decide)) T (de_name 0 rfl ⟨m.a, A.length + 2, m.dx, mfl m, rfl, mc2 A B m, ml_no m (by decide +kernel) (by decide +kernel) (by decide +kernel), da_cons (de_name 1 rfl (da_nil ⟨rfl, look_x rfl (fun d hv => ?_) hx⟩))⟩)))
  obtain ⟨e, bd, rfl, hq1, hq2⟩ := hp d hv
  refine dtg_tup (dtgs_cons (dtg_name 2 (dtgs_cons (dtg_name 3 (dtgs_cons (dtg_name 4 (dtgs_nil ?_) nd)) nd)) nd)) rfl
  show DSs _ _ _ _ _
  refine dss_one (ds_if (dt_cmp ?_))
  refine de_tup (da_cons (de_name 2 rfl (da_cons (de_name 3 rfl (da_nil ?_)))))
  refine ⟨_, rfl, by rw [sizeLine_eq]; exact (by decide : 2 ≤ 16777216), ?_⟩
  refine de_fld BF.c BF.n3 (de_name 0 rfl ⟨m.a, A.length + 2, m.dx, mfl m, _, rfl, mc2 A B m, ml_c m, ?_⟩)
  refine b_inN (k := nk2 e) (kvs := cutsN m.D) hu ⟨m.pc, A.length, rfl, mc0 A B m⟩ ?_
  rw [cuts_get]
  by_cases c : e ∈ m.D
  · rw [if_pos c]
    refine tb_i (if_t rfl ?_)
    exact dss_one (ds_raise T.t EL (hq2 c))
  · rw [if_neg c]
    refine tb_i (if_f rfl (dss_nil ?_))
    exact hq1 c
end

end
end K60

namespace K60
open PK SX VO SM WL ND
section
variable {P : Program} {w : World} {K : PySem.W.Frag} {mg : Str → Option Value} {base : Heap} {f : Addr} {fd : FuncData}
/-! ### vectors that the law draws, a client -/
abbrev p_lvec : Pre := fun ws O P => ∃ (j : Nat) (p : Addr) (n : Int), ws = [.r (.ref p)] ∧ BoxAt O j p n ∧ ∀ (v : List Int) (m : Int), v.length = 8 → P (.d (vec v)) (O.set j (p, .l [.int m]))
theorem lvec_i {j : Nat} {p : Addr} {n : Int} {O : Own} {P : DL.W → Own → Prop} (hb : BoxAt O j p n) (h : ∀ (v : List Int) (m : Int), v.length = 8 → P (.d (vec v)) (O.set j (p, .l [.int m]))) : p_lvec [.r (.ref p)] O P := ⟨j, p, n, rfl, hb, h⟩
section
local macro_rules | `(tactic| walk_at "nm") => `(tactic| first
  | ((with_reducible refine name_tag "box" ?_); refine de_name 0 rfl ?_)
  | ((with_reducible refine name_tag "k" ?_); refine de_name 1 rfl ?_))
local macro_rules | `(tactic| walk_at "tn") => `(tactic| show DSs _ [_, _] _ _ _)
theorem ok_law_vector (F : Fun K "_law_vector" "_law_vector" s_law_vector f fd) (G : Glb K mg) (d1 : Def P w K mg base 1 "_law_take" 2 pTake) : FnOk P w K mg base CX0 2 f fd ["box"] (spD K 1 p_lvec) := by
  refine fn_dl F sc_law_vector fun cdv A outer s H E hr ws O Q hl hp => ?_
  obtain ⟨j, p, n, rfl, hb, hp⟩ := hp
  have nd := sc_law_vector.nd
  obtain ⟨g1, g2, g3, g4, g5, g6, g7, g8, g9, g10, g11⟩ := G
  refine dss_one (ds_ret (de_callTy "tuple" (by assumption) boot_tuple (da_cons ?_)))
  refine de_lc1 1 nd (blkOk_by (N := ["box", "k"]) (sc := defScope s_law_vector) (by decide +kernel)) (it_range1 (by assumption) ?_)
  walk_at "go"
  refine ⟨_, rfl, by decide, by decide, fun i acc O2 => ∃ (xs : List Int) (m : Int), acc = xs.map PyData.int ∧ xs.length = i ∧ O2 = O.set j (p, .l [.int m]), ⟨[], n, rfl, rfl, ?_⟩, ?_, ?_⟩
  · refine List.ext_getElem? fun i => ?_
    rw [List.getElem?_set]
    by_cases c : j = i
    · subst c
      rw [if_pos rfl, if_pos (List.getElem?_eq_some_iff.mp hb).1]
      exact hb
    · rw [if_neg c]
  · rintro i d acc O2 hd ⟨xs, m3, rfl, hxl, rfl⟩
    obtain ⟨hi, rfl⟩ := rangeD_at0 hd
    have hi8 : i < 8 := hi
    refine ⟨_, tgok_name 1 (by decide), fun q => ⟨fun b O3 => b = true ∧ O3 = (q, .l (xs.map PyData.int)) :: (O.set j (p, .l [.int m3])), fun s H C cl fp => dts_nil ⟨rfl, rfl⟩, fun s H C cl fp O3 ⟨_, ho⟩ => ?_, fun O3 ⟨h, _⟩ => nomatch h⟩⟩
    subst ho
    walk_at "go"
    refine take_i (j := j + 1) hb.set.cons (by decide) (by decide) fun a m4 ha0 ha1 => ?_
    rw [List.set_cons_succ, List.set_set]
    walk_at "go"
    refine take_i (j := j + 1) hb.set.cons (by decide) (by decide) fun c m5 hc0 hc1 => ?_
    rw [List.set_cons_succ, List.set_set]
    refine ix_any rdl hc0 (by simpa using hc1) fun x hx => ?_
    obtain ⟨y, rfl⟩ : ∃ y : Int, x = .int y := by
      simp only [List.mem_cons, List.not_mem_nil, or_false] at hx
      rcases hx with rfl | rfl | rfl | rfl
      · exact ⟨_, rfl⟩
      · exact ⟨_, rfl⟩
      · exact ⟨_, rfl⟩
      · exact ⟨_, rfl⟩
    exact ⟨_, _, rfl, rfl, by rw [List.length_map, sizeLine_eq]; omega, xs ++ [y], m5, by rw [List.map_append]; rfl, by rw [List.length_append, hxl]; rfl, rfl⟩
  · rintro acc O2 q ⟨xs, m3, rfl, hxl, rfl⟩
    rw [rangeD_len] at hxl
    exact da_nil (c_tup rdl (hp xs m3 hxl))
end
def lessF (v t : List Int) : PyData → Bool
  | .int k => decide (atN v k < atN t k)
  | _ => false
def maxG (a b : List Int) : PyData → PyData
  | .int k => .int (max (atN a k) (atN b k))
  | _ => .none
theorem maxG_all {a b : List Int} (h1 : a.length = 8) (h2 : b.length = 8) : (rangeD 0 8).map (maxG a b) = (joinN a b).map .int := by
  apply List.ext_getElem?
  intro i
  unfold rangeD joinN
  rw [List.map_map, List.getElem?_map, List.getElem?_map, List.getElem?_zipWith]
  by_cases hi : i < 8
  · rw [List.getElem?_range hi, atN_at (by omega : i < a.length), atN_at (by omega : i < b.length)]
    show some (maxG a b (.int (0 + (i : Int)))) = some (.int (max (atN a i) (atN b i)))
    rw [Int.zero_add]
    rfl
  · rw [List.getElem?_eq_none (by rw [List.length_range]; omega), List.getElem?_eq_none (by omega : a.length ≤ i)]
    rfl
theorem less_none {v t : List Int} (hv : v.length = 8) (ht : t.length = 8) : decide (((((rangeD 0 8).filter (lessF v t)).map (fun d => d)).length : Int) = 0) = covN v t := by
  rw [Bool.eq_iff_iff, decide_eq_true_iff, covN_iff hv ht]
  constructor
  · intro h s
    by_cases hs : s < 8
    · have hz : ((rangeD 0 8).filter (lessF v t)).length = 0 := by rw [List.length_map] at h; omega
      have := List.filter_eq_nil_iff.mp (List.length_eq_zero_iff.mp hz) (.int (s : Int)) (by
        unfold rangeD
        exact List.mem_map.mpr ⟨s, List.mem_range.mpr hs, by rw [Int.zero_add]⟩)
      have h2 : ¬ (atN v (s : Nat) < atN t (s : Nat)) := fun q => this (decide_eq_true q)
      omega
    · rw [atN_out (by omega), atN_out (v := v) (by omega)]
      exact Int.le_refl _
  · intro h
    have : (rangeD 0 8).filter (lessF v t) = [] := List.filter_eq_nil_iff.mpr fun d hd => by
      unfold rangeD at hd
      obtain ⟨k, hk, rfl⟩ := List.mem_map.mp hd
      rw [Int.zero_add]
      show ¬ decide (atN v (k : Nat) < atN t (k : Nat)) = true
      rw [decide_eq_true_iff]
      have := h k
      omega
    rw [this]
    rfl
abbrev p_lcl : Pre := fun ws O P => ∃ ns : List Int, ws = [.s (.list (ns.map .int))] ∧ ns.length ≤ 63 ∧ ∀ O2, P (.d (.bool true)) O2
section
local macro_rules | `(tactic| walk_at "nm") => `(tactic| first
  | ((with_reducible refine name_tag "script" ?_); refine de_name 0 rfl ?_)
  | ((with_reducible refine name_tag "client" ?_); refine de_name 1 rfl ?_)
  | ((with_reducible refine name_tag "token" ?_); refine de_name 2 rfl ?_)
  | ((with_reducible refine name_tag "k" ?_); refine de_name 3 rfl ?_)
  | ((with_reducible refine name_tag "box" ?_); refine de_name 4 rfl ?_)
  | ((with_reducible refine name_tag "vector" ?_); refine de_name 5 rfl ?_)
  | ((with_reducible refine name_tag "site" ?_); refine de_name 6 rfl ?_)
  | ((with_reducible refine name_tag "due" ?_); refine de_name 7 rfl ?_)
  | ((with_reducible refine name_tag "told" ?_); refine de_name 8 rfl ?_))
local macro_rules | `(tactic| walk_at "tn") => `(tactic| show DSs _ [_, _, _, _, _, _, _, _, _] _ _ _)
theorem ok_law_client_holds {C : Addr} (F : Fun K "_law_client_holds" "_law_client_holds" s_law_client_holds f fd) (G : Glb K mg) (BF : ClF K C) (d1 : Def P w K mg base 1 "_law_number" 2 pNumber) (d2 : Def P w K mg base 1 "_law_take" 2 pTake) (d3 : Def P w K mg base 2 "_law_vector" 1 p_lvec) (d4 : MkD P w K mg base 1 "Client" C 0 (p_cinit C)) (d5 : OMet P w K mg base 2 C "may_ask" 1 (p_mayask C)) (d6 : OMet P w K mg base 2 C "saw" 1 (p_saw C)) : FnOk P w K mg base CX0 3 f fd ["script"] (spD K 1 p_lcl) := by
  refine fn_dl F sc_law_client_holds fun cdv A outer s H E hr ws O Q hl hp => ?_
  obtain ⟨ns, rfl, hn, hp⟩ := hp
  have nd := sc_law_client_holds.nd
  obtain ⟨g1, g2, g3, g4, g5, g6, g7, g8, g9, g10, g11⟩ := G
  refine dss_cons (ds_asg 1 (de_make0 d4 (hr.mono (by decide)) fun a dx => ⟨a, dx, O, rfl, rfl, rfl, ?_⟩) nd)
  show DSs _ _ _ _ _
  refine dss_cons (ds_asg 2 ?_ nd)
  walk_at "go"
  refine b_repL rdl (by decide) (by decide) (by rw [sizeLine_eq]; decide) ?_
  show DSs _ (List.set _ 2 (some (.d (.list (zero8.map .int))))) _ _ _
  refine dss_mid (fun τ' O' => ∃ (t : List Int) (y3 y4 y5 y6 y7 y8 : Option DL.W), t.length = 8 ∧ O' = (a, .x (insC C dx (cfl t))) :: (dx, .o (.own a)) :: O ∧ τ' = [some (.s (.list (ns.map .int))), some (.r (.ref a)), some (.d (.list (t.map .int))), y3, y4, y5, y6, y7, y8]) ?_ ?_
  · refine ds_for (it_range1 (by assumption) ?_)
    walk_at "go"
    refine ⟨_, rfl, by decide, by decide, fun i τ' O' => ∃ (t : List Int) (y3 y4 y5 y6 y7 y8 : Option DL.W), t.length = 8 ∧ O' = (a, .x (insC C dx (cfl t))) :: (dx, .o (.own a)) :: O ∧ τ' = [some (.s (.list (ns.map .int))), some (.r (.ref a)), some (.d (.list (t.map .int))), y3, y4, y5, y6, y7, y8], ⟨zero8, _, _, _, _, _, _, rfl, rfl, rfl⟩, ?_, ?_⟩
    · rintro i d τ' O' hd ⟨t, y3, y4, y5, y6, y7, y8, ht, rfl, rfl⟩
      obtain ⟨hi, rfl⟩ := rangeD_at0 hd
      have hi6 : i < 6 := hi
      refine dtg_name 3 ?_ nd
      refine dss_cons (ds_asg 4 ?_ nd)
      walk_at "ao"
      walk_at "go"
      refine number_i hn (by omega) (by omega) fun m3 => ?_
      walk_at "go"
      intro pb
      show DSs _ _ _ _ _
      refine dss_cons (ds_asg 5 (de_call d3 (hr.mono (by decide)) (da_cons (de_name 4 rfl (da_nil ⟨rfl, lvec_i (j := 0) rfl fun v0 m4 hv0 => ?_⟩)))) nd)
      rw [List.set_cons_zero]
      show DSs _ _ _ _ _
      refine dss_mid (fun τ' O' => ∃ (v : List Int) (m : Int) (y6 : Option DL.W), v.length = 8 ∧ O' = (pb, .l [.int m]) :: (a, .x (insC C dx (cfl t))) :: (dx, .o (.own a)) :: O ∧ τ' = [some (.s (.list (ns.map .int))), some (.r (.ref a)), some (.d (.list (t.map .int))), some (.d (.int i)), some (.r (.ref pb)), some (.d (vec v)), y6, y7, y8]) ?_ ?_
      · refine ds_if ?_
        walk_at "go"
        refine take_i (j := 0) rfl (by decide) (by decide) fun c m5 hc0 hc1 => ?_
        rw [List.set_cons_zero]
        walk_at "go"
        refine if_d2 (fun h => ?_) (fun h => ?_)
        · refine dss_one (ds_asg 5 (de_callTy "tuple" (by assumption) boot_tuple (da_cons ?_)) nd)
          refine de_lc1 6 nd (blkOk_by (N := ["script", "client", "token", "k", "box", "vector", "site", "due", "told"]) (sc := defScope s_law_client_holds) (by decide +kernel)) (it_range1 (by assumption) ?_)
          walk_at "go"
          refine ⟨_, rfl, by decide, by decide, fun i acc O2 => ∃ (xs : List Int) (m : Int), acc = xs.map PyData.int ∧ xs.length = i ∧ O2 = (pb, .l [.int m]) :: (a, .x (insC C dx (cfl t))) :: (dx, .o (.own a)) :: O, ⟨[], m5, rfl, rfl, rfl⟩, ?_, ?_⟩
          · rintro i2 d2 acc O2 hd2 ⟨xs, m6, rfl, hxl, rfl⟩
            obtain ⟨hi2, rfl⟩ := rangeD_at0 hd2
            have hi8 : i2 < 8 := hi2
            refine ⟨_, tgok_name 6 (by decide), fun q => ⟨fun b O3 => b = true ∧ O3 = (q, .l (xs.map PyData.int)) :: (pb, .l [.int m6]) :: (a, .x (insC C dx (cfl t))) :: (dx, .o (.own a)) :: O, fun s H C cl fp => dts_nil ⟨rfl, rfl⟩, fun s H C cl fp O3 ⟨_, ho⟩ => ?_, fun O3 ⟨h, _⟩ => nomatch h⟩⟩
            subst ho
            walk_at "go"
            refine ix_x (.inl rdl) (by omega) (by omega) ?_
            walk_at "go"
            refine take_i (j := 1) rfl (by decide) (by decide) fun r m7 hr0 hr1 => ?_
            walk_at "go"
            exact ⟨_, _, rfl, rfl, by rw [List.length_map, sizeLine_eq]; omega, xs ++ [atN t (i2 : Nat) + r], m7, by rw [List.map_append]; rfl, by rw [List.length_append, hxl]; rfl, rfl⟩
          · rintro acc O2 q ⟨xs, m6, rfl, hxl, rfl⟩
            rw [rangeD_len] at hxl
            exact da_nil (c_tup rdl ⟨xs, m6, _, hxl, rfl, rfl⟩)
        · exact dss_nil ⟨v0, m5, _, hv0, rfl, rfl⟩
      rintro τ' O' ⟨v, m6, y6', hv, rfl, rfl⟩
      refine dss_cons (ds_asg 7 ?_ nd)
      walk_at "go"
      refine de_lc1 6 nd (blkOk_by (N := ["script", "client", "token", "k", "box", "vector", "site", "due", "told"]) (sc := defScope s_law_client_holds) (by decide +kernel)) (it_range1 (by assumption) ?_)
      walk_at "go"
      refine ⟨_, rfl, by decide, by decide, lcd_filter (lessF v t) (fun d => d) (by decide) (fun i2 d2 hd2 => ?_) (fun q => ?_)⟩
      · obtain ⟨hi2, rfl⟩ := rangeD_at0 hd2
        have hi8 : i2 < 8 := hi2
        refine ⟨_, tgok_name 6 (by decide), fun p acc s H C' cl fp => ⟨?_, fun hk => ?_⟩⟩
        · walk_at "go"
          refine ix_x (.inr rfl) (by omega) (by omega) ?_
          walk_at "go"
          refine ix_x (.inl rdl) (by omega) (by omega) ?_
          walk_at "go"
          exact ⟨rfl, rfl⟩
        · walk_at "go"
          exact ⟨rfl, rfl⟩
      walk_at "go"
      rw [show (8 : Int).toNat = 8 from rfl, less_none hv ht]
      refine de_om d5 (hr.mono (by decide)) (de_name 1 rfl ⟨a, 1, dx, cfl t, rfl, rfl, cf_no (by decide +kernel), da_cons (de_name 5 rfl (da_nil ⟨rfl, a, dx, 1, t, v, rfl, rfl, by omega, ?_⟩))⟩)
      show DSs _ _ _ _ _
      refine dss_cons (ds_if ?_)
      walk_at "go"
      refine de_fld BF.c BF.nt (de_name 1 rfl ⟨a, 1, dx, cfl t, _, rfl, rfl, cf_look t, ?_⟩)
      have e : PyData.eqv (vec t) (.tuple (t.map .int)) = true := eqv_self (shaped_vec t)
      walk_at "go"
      rw [e]
      refine if_f rfl (dss_nil ?_)
      show DSs _ _ _ _ _
      refine dss_one (ds_sb (ds_if ?_))
      walk_at "go"
      refine take_i (j := 0) rfl (by decide) (by decide) fun c m7 hc0 hc1 => ?_
      rw [List.set_cons_zero]
      walk_at "go"
      refine if_d2 (fun h => ?_) (fun h => ?_)
      · refine dss_cons (ds_expr (de_om d6 (hr.mono (by decide)) (de_name 1 rfl ⟨a, 1, dx, cfl t, rfl, rfl, cf_no (by decide +kernel), da_cons (de_name 5 rfl (da_nil ⟨rfl, a, dx, 1, t, v, rfl, rfl, by omega, ?_⟩))⟩)))
        show DSs _ _ ((pb, Cell.l [.int m7]) :: (a, Cell.x (insC C dx (cfl (joinN t v)))) :: (dx, Cell.o (.own a)) :: O) _ _
        refine dss_one (ds_asg 2 (de_lc1 6 nd (blkOk_by (N := ["script", "client", "token", "k", "box", "vector", "site", "due", "told"]) (sc := defScope s_law_client_holds) (by decide +kernel)) (it_range1 (by assumption) ?_)) nd)
        walk_at "go"
        refine ⟨_, rfl, by decide, by decide, lcd_map (maxG t v) (by decide) (fun i2 d2 hd2 => ?_) (fun q => ?_)⟩
        · obtain ⟨hi2, rfl⟩ := rangeD_at0 hd2
          have hi8 : i2 < 8 := hi2
          refine ⟨_, tgok_name 6 (by decide), fun p acc s H C' cl fp => ?_⟩
          walk_at "go"
          refine ix_x (.inl rdl) (by omega) (by omega) ?_
          walk_at "go"
          refine ix_x (.inr rfl) (by omega) (by omega) ?_
          walk_at "go"
          refine ⟨?_, rfl⟩
          show W.d (.int _) = W.d (.int _)
          congr 2
          rw [Int.max_def]
          split <;> split <;> omega
        rw [show (8 : Int).toNat = 8 from rfl, maxG_all ht hv]
        exact ⟨_, Les.drop _, joinN t v, _, _, _, _, _, _, joinN_len ht hv, rfl, rfl⟩
      · exact dss_nil ⟨_, Les.drop _, t, _, _, _, _, _, _, ht, rfl, rfl⟩
    · rintro τ' O' ⟨t, y3, y4, y5, y6, y7, y8, ht, rfl, rfl⟩
      exact ⟨t, y3, y4, y5, y6, y7, y8, ht, rfl, rfl⟩
  rintro τ' O' ⟨t, y3, y4, y5, y6, y7, y8, ht, rfl, rfl⟩
  refine dss_one (ds_ret ?_)
  refine de_cmp (de_fld BF.c BF.nt (de_name 1 rfl ⟨a, 0, dx, cfl t, _, rfl, rfl, cf_look t, ?_⟩))
  walk_at "go"
  have e : PyData.eqv (vec t) (.tuple (t.map .int)) = true := eqv_self (shaped_vec t)
  rw [e]
  exact hp _
end

end
end K60

namespace K60
open PK SX VO SM WL ND
section
variable {P : Program} {w : World} {K : PySem.W.Frag} {mg : Str → Option Value} {base : Heap} {f : Addr} {fd : FuncData}
/-! ### what is due -/
def msgT (e : Int × Int) (v : List Int) : PyData := .tuple [.int e.1, .int e.2, .tuple [.str "news", vec v, .tuple []]]
def MOk (M : List (Key × PyData)) : Prop := ∀ k d, valD M k = some d → ∃ e v, d = msgT e v
def endsD : PyData → Int × Int
  | .tuple (.int a :: .int b :: _) => (a, b)
  | _ => (0, 0)
def ansD (M : List (Key × PyData)) (D : List (Int × Int)) (n kind number : Int) : PyData :=
  match valD M (.inl number) with
  | none => .list [.none, .str "no message"]
  | some d => if kind = 0 then .list [d, .str ""] else if kind = 1 then .list [.none, .str ""] else if kind = 2 then .list [.int n, .str ""] else .list [.none, .str (if endsD d ∈ D then "cut" else "")]
def aftM (M : List (Key × PyData)) (n kind number : Int) : List (Key × PyData) :=
  match valD M (.inl number) with
  | none => M
  | some d => if kind = 0 then M else if kind = 1 then dropD M (.inl number) else if kind = 2 then putD M (.inl n) d else M
def aftN (M : List (Key × PyData)) (n kind number : Int) : Int := if kind = 2 ∧ (valD M (.inl number)).isSome = true then n + 1 else n
theorem dot_shaped (p : Int × Int) : SeqAt.shaped (WL.dotD p) = true := shaped_mk rfl (by simp [WL.dotD, PyData.depth, PyData.depthAll])
theorem dots_shaped (l : List (Int × Int)) : SeqAt.shaped (.list (l.map WL.dotD)) = true := by
  refine shaped_mk ?_ ?_
  · simp only [PyData.canLay0]
    exact canLayAll_map l fun v _ => rfl
  · simp only [PyData.depth]
    exact Nat.le_trans (Nat.succ_le_succ (depthAll_map (n := 1) l fun v _ => Nat.le_refl _)) (by decide)
theorem dot_eqv (p q : Int × Int) : PyData.eqv (WL.dotD p) (WL.dotD q) = decide (p = q) := by
  obtain ⟨a, b⟩ := p
  obtain ⟨c, d⟩ := q
  rw [Bool.eq_iff_iff]
  simp [WL.dotD, PyData.eqv, PyData.eqvAll]
theorem any_dots (l : List (Int × Int)) (p : Int × Int) : ((l.map WL.dotD).any fun z => PyData.eqv z (WL.dotD p)) = decide (p ∈ l) := by
  rw [Bool.eq_iff_iff, List.any_eq_true, decide_eq_true_iff]
  constructor
  · rintro ⟨z, hz, e⟩
    obtain ⟨j, hj, rfl⟩ := List.mem_map.mp hz
    rw [dot_eqv, decide_eq_true_iff] at e
    exact e ▸ hj
  · intro h
    exact ⟨_, List.mem_map.mpr ⟨p, h, rfl⟩, by rw [dot_eqv]; simp⟩
abbrev p_ldue : Pre := fun ws O P => ∃ (A B : Own) (pd : Addr) (M : List (Key × PyData)) (cs D : List (Int × Int)) (n kind number : Int), ws = [.r (.ref pd), .d (.list (cs.map WL.dotD)), .d (.int n), .d (.int kind), .d (.int number)] ∧ O = A ++ ((pd, .k M) :: B) ∧ MOk M ∧ M.length < 1000 ∧ (∀ e, e ∈ cs ↔ e ∈ D) ∧ 0 ≤ kind ∧ kind ≤ 3 ∧ P (.d (ansD M D n kind number)) (A ++ ((pd, .k (aftM M n kind number)) :: B))
section
local macro_rules | `(tactic| walk_at "nm") => `(tactic| first
  | ((with_reducible refine name_tag "model" ?_); refine de_name 0 rfl ?_)
  | ((with_reducible refine name_tag "cuts" ?_); refine de_name 1 rfl ?_)
  | ((with_reducible refine name_tag "count" ?_); refine de_name 2 rfl ?_)
  | ((with_reducible refine name_tag "kind" ?_); refine de_name 3 rfl ?_)
  | ((with_reducible refine name_tag "number" ?_); refine de_name 4 rfl ?_))
local macro_rules | `(tactic| walk_at "tn") => `(tactic| show DSs _ [_, _, _, _, _] _ _ _)
theorem ok_law_due (F : Fun K "_law_due" "_law_due" s_law_due f fd) (G : Glb K mg) : FnOk P w K mg base CX0 1 f fd ["model", "cuts", "count", "kind", "number"] (spD K 5 p_ldue) := by
  refine fn_dl F sc_law_due fun cdv Ar outer s H E hr ws O Q hl hp => ?_
  obtain ⟨A, B, pd, M, cs, D, n, kind, number, rfl, rfl, hM, hMl, hcs, hk0, hk3, hp⟩ := hp
  have nd := sc_law_due.nd
  obtain ⟨g1, g2, g3, g4, g5, g6, g7, g8, g9, g10, g11⟩ := G
  have hu := WL.Room.u1 hr
  have hat : ∀ M : List (Key × PyData), (A ++ ((pd, Cell.k M) :: B))[A.length]? = some (pd, Cell.k M) := fun M => by simp
  have hset : ∀ M M' : List (Key × PyData), (A ++ ((pd, Cell.k M) :: B)).set A.length (pd, Cell.k M') = A ++ ((pd, Cell.k M') :: B) := fun M M' => by simp [List.set_append]
  unfold ansD aftM at hp
  refine dss_cons (ds_if (dt_cmp (de_name 4 rfl (de_name 0 rfl ?_))))
  refine b_niK (k := .inl number) hu ⟨pd, A.length, rfl, hat M⟩ ?_
  cases hv : valD M (.inl number) with
  | none =>
    rw [hv] at hp
    refine tb_i (if_t rfl ?_)
    walk_at "go"
    exact hp
  | some d =>
    rw [hv] at hp
    obtain ⟨e, v, rfl⟩ := hM _ _ hv
    simp only at hp
    refine tb_i (if_f rfl (dss_nil ?_))
    show DSs _ _ _ _ _
    refine dss_cons (ds_if ?_)
    walk_at "go"
    by_cases c0 : kind = 0
    · rw [decide_eq_true c0]
      rw [if_pos c0, if_pos c0] at hp
      refine if_t rfl ?_
      refine dss_one (ds_ret (de_lst (da_cons (de_dget hu (de_name 0 rfl (de_name 4 rfl ⟨M, .inl number, _, ⟨pd, A.length, rfl, hat M⟩, rfl, hv, ?_⟩))))))
      walk_at "go"
      exact hp
    rw [decide_eq_false c0]
    rw [if_neg c0, if_neg c0] at hp
    refine if_f rfl (dss_nil ?_)
    show DSs _ _ _ _ _
    refine dss_cons (ds_if ?_)
    walk_at "go"
    by_cases c1 : kind = 1
    · rw [decide_eq_true c1]
      rw [if_pos c1, if_pos c1] at hp
      refine if_t rfl ?_
      refine dss_cons (ds_expr (de_dpop1 (de_name 0 rfl ⟨pd, A.length, M, rfl, hat M, de_name 4 rfl ⟨A.length, M, .inl number, _, hat M, rfl, hv, ?_⟩⟩) ⟨rfl, rfl, rfl, rfl⟩))
      rw [hset]
      show DSs _ _ _ _ _
      walk_at "go"
      exact hp
    rw [decide_eq_false c1]
    rw [if_neg c1, if_neg c1] at hp
    refine if_f rfl (dss_nil ?_)
    show DSs _ _ _ _ _
    refine dss_cons (ds_if ?_)
    walk_at "go"
    by_cases c2 : kind = 2
    · rw [decide_eq_true c2]
      rw [if_pos c2, if_pos c2] at hp
      refine if_t rfl ?_
      refine dss_cons (ds_subK hu (de_dget hu (de_name 0 rfl (de_name 4 rfl ⟨M, .inl number, _, ⟨pd, A.length, rfl, hat M⟩, rfl, hv, ?_⟩))))
      refine de_name 0 rfl (de_name 2 rfl ⟨pd, A.length, M, .inl n, _, rfl, rfl, rfl, hat M, by rw [sizeLine_eq]; omega, ?_⟩)
      rw [hset]
      show DSs _ _ _ _ _
      walk_at "go"
      exact hp
    rw [decide_eq_false c2]
    rw [if_neg c2, if_neg c2] at hp
    refine if_f rfl (dss_nil ?_)
    show DSs _ _ _ _ _
    refine dss_one (ds_ret (de_lst (da_cons (de_non (da_cons (de_ix (de_lst (da_cons (de_str (da_cons (de_str (da_nil ⟨_, rfl, by simp only [List.length_cons, List.length_nil, sizeLine_eq]; omega, ?_⟩))))))))))))
    refine de_callTy "int" (by assumption) PyProof.Rows.boot_int (da_cons (de_cmp (de_sl ?_)))
    refine de_dget hu (de_name 0 rfl (de_name 4 rfl ⟨M, .inl number, _, ⟨pd, A.length, rfl, hat M⟩, rfl, hv, ?_⟩))
    have ec : PyData.tuple (cutL [PyData.int e.1, .int e.2, .tuple [.str "news", vec v, .tuple []]] none (some 2)) = WL.dotD e := by
      rw [cutL_take (by decide)]
      rfl
    walk_at "go"
    rw [ec]
    refine b_inL (DL.Room.u65 hr) rdw rdw (dot_shaped e) (dots_shaped cs) ?_
    rw [any_dots]
    have hed : endsD (msgT e v) = e := rfl
    rw [hed] at hp
    refine da_nil (c_intB ?_)
    by_cases c3 : e ∈ D
    · rw [if_pos c3] at hp
      rw [decide_eq_true ((hcs e).mpr c3), if_pos rfl]
      refine ix_l rdl (d := .str "cut") rfl ?_
      walk_at "go"
      exact hp
    · rw [if_neg c3] at hp
      rw [decide_eq_false fun q => c3 ((hcs e).mp q), if_neg (by simp)]
      refine ix_l rdl (d := .str "") rfl ?_
      walk_at "go"
      exact hp
end
/-! ### what the mail answers -/
structure Cls60 (K : PySem.W.Frag) (mg : Str → Option Value) (CN CL : Addr) : Prop where
  en : mg "NoMessage" = some (.ref CN)
  el : mg "LinkCut" = some (.ref CL)
  ecn : ExcC K CN
  ecl : ExcC K CL
  me : ∃ B, mg "MeetError" = some (.ref B) ∧ PySem.W.exmOne K (.ref CN) (.ref B) = some true ∧ PySem.W.exmOne K (.ref CL) (.ref B) = some true
  nl : PySem.W.kitOne K (.ref CN) (.ref CL) = some false
  ln : PySem.W.kitOne K (.ref CL) (.ref CN) = some false
theorem kself {C : Addr} : PySem.W.kitOne K (.ref C) (.ref C) = some true := by
  unfold PySem.W.kitOne
  rw [if_pos (by simp)]
abbrev p_lasked (P : Program) (w : World) (C : Addr) : Pre := fun ws O Q => ∃ (A B : Own) (q0 : Addr) (c0 : Cell) (m : Ml) (kind number : Int), ws = [.r (.ref m.a), .d (.int kind), .d (.int number)] ∧ O = (q0, c0) :: (A ++ (mcells P w C m ++ B)) ∧ MOk m.M ∧ m.M.length < 1000 ∧ 0 ≤ kind ∧ kind ≤ 3 ∧ Q (.d (ansD m.M m.D m.n kind number)) ((q0, c0) :: (A ++ (mcells P w C { m with n := aftN m.M m.n kind number, M := aftM m.M m.n kind number } ++ B)))
section
local macro_rules | `(tactic| walk_at "nm") => `(tactic| first
  | ((with_reducible refine name_tag "mail" ?_); refine de_name 0 rfl ?_)
  | ((with_reducible refine name_tag "kind" ?_); refine de_name 1 rfl ?_)
  | ((with_reducible refine name_tag "number" ?_); refine de_name 2 rfl ?_)
  | ((with_reducible refine name_tag "e" ?_); refine de_name 3 rfl ?_))
local macro_rules | `(tactic| walk_at "tn") => `(tactic| show DSs _ [_, _, _, _] _ _ _)
theorem ok_law_asked {C CN CL : Addr} (F : Fun K "_law_asked" "_law_asked" s_law_asked f fd) (G : Glb K mg) (EC : Cls60 K mg CN CL) (d1 : OMetX P w K mg base 1 C "look" 1 (x_look P w C CN)) (d2 : OMetX P w K mg base 2 C "lose" 1 (x_lose P w C CN)) (d3 : OMetX P w K mg base 2 C "double" 1 (x_double P w C CN)) (d4 : OMetX P w K mg base 2 C "check_link" 1 (x_check P w C CN CL)) : FnOk P w K mg base CX0 3 f fd ["mail", "kind", "number"] (spD K 3 (p_lasked P w C)) := by
  refine fn_dl F sc_law_asked fun cdv Ar outer s H E hr ws O Q hl hp => ?_
  obtain ⟨A, B, q0, c0, m, kind, number, rfl, rfl, hM, hMl, hk0, hk3, hp⟩ := hp
  have nd := sc_law_asked.nd
  obtain ⟨g1, g2, g3, g4, g5, g6, g7, g8, g9, g10, g11⟩ := G
  obtain ⟨BE, hBE, hx1, hx2⟩ := EC.me
  have hno := ml_no m (f := "look") (by decide +kernel) (by decide +kernel) (by decide +kernel)
  have hno2 := ml_no m (f := "lose") (by decide +kernel) (by decide +kernel) (by decide +kernel)
  have hno3 := ml_no m (f := "double") (by decide +kernel) (by decide +kernel) (by decide +kernel)
  have hno4 := ml_no m (f := "check_link") (by decide +kernel) (by decide +kernel) (by decide +kernel)
  have hat : ∀ c : Cell, ((q0, c) :: (A ++ (mcells P w C m ++ B)))[A.length + 2 + 1]? = some (m.a, .x (insC C m.dx (mfl m))) := fun c => mc2 A B m
  refine dss_one ?_
  refine ds_try (i := 3) (cl := .ref BE) (q := q0) (c := c0) (j := 0) (fun r τ' cls O2 => ((valD m.M (.inl number) = none ∧ cls = .ref CN) ∨ (∃ d, valD m.M (.inl number) = some d ∧ kind = 3 ∧ endsD d ∈ m.D ∧ cls = .ref CL)) ∧ O2 = (q0, .x r) :: (A ++ (mcells P w C m ++ B)) ∧ τ' = [some (.r (.ref m.a)), some (.d (.int kind)), some (.d (.int number)), none]) rfl nd rfl ⟨rfl, by decide, .inl hBE⟩ (fun r pn xe T ps => ?_) (fun r τ' cls O2 ⟨hcls, hO, hτ⟩ => ?_)
  · have ust : ∀ (m' : Ml), Unst q0 r c0 ((q0, .x r) :: (A ++ (mcells P w C m' ++ B))) ((q0, c0) :: (A ++ (mcells P w C m' ++ B))) := fun m' => ⟨0, rfl, rfl⟩
    have ust2 : ∀ (r' : XC) (m' : Ml), Unst q0 r' (.x r) ((q0, .x r') :: (A ++ (mcells P w C m' ++ B))) ((q0, .x r) :: (A ++ (mcells P w C m' ++ B))) := fun r' m' => ⟨0, rfl, rfl⟩
    have hp0 : ∀ (d : PyData) (m' : Ml), d = ansD m.M m.D m.n kind number → m' = { m with n := aftN m.M m.n kind number, M := aftM m.M m.n kind number } → Q (.d d) ((q0, c0) :: (A ++ (mcells P w C m' ++ B))) := fun d m' h1 h2 => by
      rw [h1, h2]
      exact hp
    show DSs _ _ ((q0, .x r) :: (A ++ (mcells P w C m ++ B))) _ _
    refine dss_cons (ds_if ?_)
    walk_at "go"
    by_cases c0' : kind = 0
    · rw [decide_eq_true c0']
      refine if_t rfl ?_
      refine dss_one (ds_ret (de_lst (da_cons ?_)))
      refine de_omT d1 (hr.mono (by decide)) T (de_name 0 rfl ⟨m.a, A.length + 2 + 1, m.dx, mfl m, rfl, hat _, hno, da_cons (de_name 2 rfl (da_nil ⟨rfl, 0, q0, _, rfl, fun r' => ?_⟩))⟩)
      refine look_x (A := (q0, .x r') :: A) rfl (fun d hv => ?_) (fun hv => ?_)
      · refine ⟨_, ust2 r' m, ?_⟩
        walk_at "go"
        refine ⟨_, ust m, hp0 _ _ ?_ ?_⟩
        · unfold ansD
          rw [hv]
          simp only
          rw [if_pos c0']
        · unfold aftN aftM
          rw [hv, if_neg (by omega)]
          simp only
          rw [if_pos c0']
      · exact ⟨_, ust2 r' m, .inl ⟨hv, rfl⟩, rfl, rfl⟩
    rw [decide_eq_false c0']
    refine if_f rfl (dss_nil ?_)
    show DSs _ _ _ _ _
    refine dss_cons (ds_if ?_)
    walk_at "go"
    by_cases c1 : kind = 1
    · rw [decide_eq_true c1]
      refine if_t rfl ?_
      refine dss_one (ds_ret (de_lst (da_cons ?_)))
      refine de_omT d2 (hr.mono (by decide)) T (de_name 0 rfl ⟨m.a, A.length + 2 + 1, m.dx, mfl m, rfl, hat _, hno2, da_cons (de_name 2 rfl (da_nil ⟨rfl, 0, q0, _, rfl, fun r' => ?_⟩))⟩)
      refine ⟨(q0, .x r') :: A, B, m, number, rfl, rfl, fun d hv => ?_, fun hv => ?_⟩
      · refine ⟨_, ust2 r' { m with M := dropD m.M (.inl number) }, ?_⟩
        walk_at "go"
        refine ⟨_, ust { m with M := dropD m.M (.inl number) }, hp0 _ _ ?_ ?_⟩
        · unfold ansD
          rw [hv]
          simp only
          rw [if_neg c0', if_pos c1]
        · unfold aftN aftM
          rw [hv, if_neg (by omega)]
          simp only
          rw [if_neg c0', if_pos c1]
      · exact ⟨_, ust2 r' m, .inl ⟨hv, rfl⟩, rfl, rfl⟩
    rw [decide_eq_false c1]
    refine if_f rfl (dss_nil ?_)
    show DSs _ _ _ _ _
    refine dss_cons (ds_if ?_)
    walk_at "go"
    by_cases c2 : kind = 2
    · rw [decide_eq_true c2]
      refine if_t rfl ?_
      refine dss_one (ds_ret (de_lst (da_cons ?_)))
      refine de_omT d3 (hr.mono (by decide)) T (de_name 0 rfl ⟨m.a, A.length + 2 + 1, m.dx, mfl m, rfl, hat _, hno3, da_cons (de_name 2 rfl (da_nil ⟨rfl, 0, q0, _, rfl, fun r' => ?_⟩))⟩)
      refine ⟨(q0, .x r') :: A, B, m, number, rfl, rfl, hMl, fun d hv => ?_, fun hv => ?_⟩
      · obtain ⟨e, v, rfl⟩ := hM _ _ hv
        refine ⟨_, _, _, rfl, _, ust2 r' { m with n := m.n + 1, M := putD m.M (.inl m.n) (msgT e v) }, ?_⟩
        walk_at "go"
        refine ⟨_, ust { m with n := m.n + 1, M := putD m.M (.inl m.n) (msgT e v) }, hp0 _ _ ?_ ?_⟩
        · unfold ansD
          rw [hv]
          simp only
          rw [if_neg c0', if_neg c1, if_pos c2]
        · unfold aftN aftM
          rw [hv, if_pos ⟨c2, rfl⟩]
          simp only
          rw [if_neg c0', if_neg c1, if_pos c2]
      · exact ⟨_, ust2 r' m, .inl ⟨hv, rfl⟩, rfl, rfl⟩
    rw [decide_eq_false c2]
    refine if_f rfl (dss_nil ?_)
    show DSs _ _ _ _ _
    refine dss_one (ds_ret (de_lst (da_cons ?_)))
    refine de_omT d4 (hr.mono (by decide)) T (de_name 0 rfl ⟨m.a, A.length + 2 + 1, m.dx, mfl m, rfl, hat _, hno4, da_cons (de_name 2 rfl (da_nil ⟨rfl, 0, q0, _, rfl, fun r' => ?_⟩))⟩)
    refine ⟨(q0, .x r') :: A, B, m, number, rfl, rfl, fun d hv => ?_, fun hv => ?_⟩
    · obtain ⟨e, v, rfl⟩ := hM _ _ hv
      refine ⟨e, _, rfl, fun he => ?_, fun he => ?_⟩
      · refine ⟨_, ust2 r' m, ?_⟩
        walk_at "go"
        refine ⟨_, ust m, hp0 _ _ ?_ ?_⟩
        · unfold ansD
          rw [hv]
          simp only
          rw [if_neg c0', if_neg c1, if_neg c2, show endsD (msgT e v) = e from rfl, if_neg he]
        · unfold aftN aftM
          rw [hv, if_neg (fun q => c2 q.1)]
          simp only
          rw [if_neg c0', if_neg c1, if_neg c2]
      · exact ⟨_, ust2 r' m, .inr ⟨_, hv, by omega, he, rfl⟩, rfl, rfl⟩
    · exact ⟨_, ust2 r' m, .inl ⟨hv, rfl⟩, rfl, rfl⟩
  · subst hO hτ
    rcases hcls with ⟨hv, rfl⟩ | ⟨d, hv, hk, hd, rfl⟩
    · refine ⟨hx1, _, ⟨0, rfl, rfl⟩, fun a oe pn hz hv2 => ?_⟩
      walk_at "go"
      refine de_glob (v := .ref CN) (w := .r (.ref CN)) EC.en rfl (fun _ => rfl) ?_
      walk_at "go"
      refine c_isE EC.ecn hz hv2 (fun _ h => h) kself ?_
      walk_at "go"
      refine de_glob (v := .ref CL) (w := .r (.ref CL)) EC.el rfl (fun _ => rfl) ?_
      walk_at "go"
      refine c_isE EC.ecn hz hv2 (fun _ h => h) EC.nl ?_
      walk_at "go"
      rw [show ("!" : Str) = S [33] from by decide +kernel]
      refine b_repC (by decide) (by decide) (by decide) (by decide) ?_
      have e1 : ("no message" : Str) ++ S (List.replicate (if false = true then (1 : Int) else 0).toNat [33]).flatten = ("no message" : Str) := by decide +kernel
      walk_at "go"
      rw [e1]
      have hq := hp
      unfold ansD aftN aftM at hq
      rw [hv, if_neg (by simp)] at hq
      exact hq
    · refine ⟨hx2, _, ⟨0, rfl, rfl⟩, fun a oe pn hz hv2 => ?_⟩
      walk_at "go"
      refine de_glob (v := .ref CN) (w := .r (.ref CN)) EC.en rfl (fun _ => rfl) ?_
      walk_at "go"
      refine c_isE EC.ecl hz hv2 (fun _ h => h) EC.ln ?_
      walk_at "go"
      refine de_glob (v := .ref CL) (w := .r (.ref CL)) EC.el rfl (fun _ => rfl) ?_
      walk_at "go"
      refine c_isE EC.ecl hz hv2 (fun _ h => h) kself ?_
      walk_at "go"
      refine ix_l rdl (d := .str "cut") rfl ?_
      walk_at "go"
      have hq := hp
      unfold ansD aftN aftM at hq
      rw [hv, if_neg (fun q => absurd q.1 (by omega))] at hq
      simp only at hq
      have h0 : ¬ kind = 0 := by omega
      have h1 : ¬ kind = 1 := by omega
      have h2 : ¬ kind = 2 := by omega
      simp only [if_neg h0, if_neg h1, if_neg h2, if_pos hd] at hq
      exact hq
end

end
end K60

namespace K60
open PK SX VO SM WL ND
section
variable {P : Program} {w : World} {K : PySem.W.Frag} {mg : Str → Option Value} {base : Heap} {f : Addr} {fd : FuncData}
/-! ### clients and mail -/
theorem valD_dropD {M : List (Key × PyData)} {k j : Key} {d : PyData} (h : valD (dropD M k) j = some d) : valD M j = some d := by
  unfold valD dropD at *
  induction M with
  | nil => exact h
  | cons x M ih =>
    by_cases c : x.1 = k
    · rw [List.filter_cons_of_neg (by simp [c])] at h
      by_cases c2 : x.1 = j
      · exfalso
        obtain ⟨y, hy, -⟩ := Option.map_eq_some_iff.mp h
        have h1 := List.find?_some hy
        have h2 := (List.mem_filter.mp (List.mem_of_find?_eq_some hy)).2
        simp only [decide_eq_true_eq] at h1
        rw [h1, ← c2, c] at h2
        simp at h2
      · rw [List.find?_cons_of_neg (by simp [c2])]
        exact ih h
    · rw [List.filter_cons_of_pos (by simp [c])] at h
      by_cases c2 : x.1 = j
      · rw [List.find?_cons_of_pos (by simp [c2])] at h ⊢
        exact h
      · rw [List.find?_cons_of_neg (by simp [c2])] at h ⊢
        exact ih h
structure MS (m : Ml) (cs : List (Int × Int)) (i : Nat) : Prop where
  ok : MOk m.M
  keys : ∃ ks : List Int, m.M.map (·.1) = ks.map Sum.inl ∧ (∀ k ∈ ks, k < m.n) ∧ ks.length ≤ i
  n0 : 0 ≤ m.n
  ni : m.n ≤ i
  dn : m.D.Nodup
  cn : cs.Nodup
  cd : ∀ e, e ∈ cs ↔ e ∈ m.D
  dl : m.D.length ≤ i
theorem MS.len {m : Ml} {cs : List (Int × Int)} {i : Nat} (h : MS m cs i) : m.M.length ≤ i := by
  obtain ⟨ks, e, -, l⟩ := h.keys
  have := congrArg List.length e
  rw [List.length_map, List.length_map] at this
  omega
theorem MS.up {m : Ml} {cs : List (Int × Int)} {i : Nat} (h : MS m cs i) : MS m cs (i + 1) := by
  obtain ⟨ks, e, f, l⟩ := h.keys
  exact ⟨h.ok, ⟨ks, e, f, by omega⟩, h.n0, by have := h.ni; omega, h.dn, h.cn, h.cd, by have := h.dl; omega⟩
theorem MS.put {m : Ml} {cs : List (Int × Int)} {i : Nat} (h : MS m cs i) (e : Int × Int) (v : List Int) : MS { m with n := m.n + 1, M := putD m.M (.inl m.n) (msgT e v) } cs (i + 1) := by
  obtain ⟨ks, ek, f, l⟩ := h.keys
  have hn : (Sum.inl m.n : Key) ∉ m.M.map (·.1) := fun q => by
    rw [ek] at q
    obtain ⟨k, hk, e⟩ := List.mem_map.mp q
    have := f k hk
    cases e
    omega
  refine ⟨fun k d hv => ?_, ⟨ks ++ [m.n], ?_, fun k hk => ?_, by rw [List.length_append, List.length_singleton]; omega⟩, by have := h.n0; show 0 ≤ m.n + 1; omega, by have := h.ni; show m.n + 1 ≤ _; omega, h.dn, h.cn, h.cd, by have := h.dl; show m.D.length ≤ _; omega⟩
  · have hv2 : valD (putD m.M (.inl m.n) (msgT e v)) k = some d := hv
    rw [valD_put] at hv2
    split at hv2
    · cases hv2
      exact ⟨e, v, rfl⟩
    · exact h.ok k d hv2
  · show (putD m.M (.inl m.n) (msgT e v)).map (·.1) = _
    rw [DL.putD_new hn, List.map_append, List.map_append, ek]
    rfl
  · rcases List.mem_append.mp hk with q | q
    · have := f k q
      show k < m.n + 1
      omega
    · rw [List.mem_singleton.mp q]
      show m.n < m.n + 1
      omega
theorem MS.drop {m : Ml} {cs : List (Int × Int)} {i : Nat} (h : MS m cs i) (n : Int) : MS { m with M := dropD m.M (.inl n) } cs i := by
  obtain ⟨ks, ek, f, l⟩ := h.keys
  refine ⟨fun k d hv => h.ok k d (valD_dropD hv), ⟨ks.filter fun k => decide (k ≠ n), ?_, fun k hk => f k (List.mem_filter.mp hk).1, Nat.le_trans (List.length_filter_le _ _) l⟩, h.n0, h.ni, h.dn, h.cn, h.cd, h.dl⟩
  show (dropD m.M (.inl n)).map (·.1) = _
  unfold dropD
  have : (m.M.filter fun kv => !decide (kv.1 = (Sum.inl n : Key))).map (·.1) = (m.M.map (·.1)).filter fun k => !decide (k = (Sum.inl n : Key)) := by
    rw [List.filter_map]
    rfl
  rw [this, ek, List.filter_map]
  refine congrArg _ (List.filter_congr fun k _ => ?_)
  show (!decide ((Sum.inl k : Key) = Sum.inl n)) = decide (k ≠ n)
  by_cases c : k = n
  · simp [c]
  · simp [c]
theorem MS.aft {m : Ml} {cs : List (Int × Int)} {i : Nat} (h : MS m cs i) (kind number : Int) : MS { m with n := aftN m.M m.n kind number, M := aftM m.M m.n kind number } cs (i + 1) := by
  unfold aftN aftM
  cases hv : valD m.M (.inl number) with
  | none =>
    rw [if_neg (by simp)]
    exact h.up
  | some d =>
    obtain ⟨e, v, rfl⟩ := h.ok _ _ hv
    simp only [Option.isSome_some, and_true]
    by_cases c2 : kind = 2
    · rw [if_pos c2, if_neg (by omega), if_neg (by omega), if_pos c2]
      exact h.put e v
    · rw [if_neg c2]
      by_cases c0 : kind = 0
      · rw [if_pos c0]
        exact h.up
      · rw [if_neg c0]
        by_cases c1 : kind = 1
        · rw [if_pos c1]
          exact (h.drop number).up
        · rw [if_neg c1, if_neg c2]
          exact h.up
theorem MS.cut {m : Ml} {cs : List (Int × Int)} {i : Nat} (h : MS m cs i) (e : Int × Int) : MS { m with D := if e ∈ m.D then m.D else m.D ++ [e] } ((cs.filter fun x => decide (x ≠ e)) ++ [e]) (i + 1) := by
  obtain ⟨ks, ek, f, l⟩ := h.keys
  have hd : (if e ∈ m.D then m.D else m.D ++ [e]).Nodup ∧ (if e ∈ m.D then m.D else m.D ++ [e]).length ≤ i + 1 ∧ ∀ x, x ∈ (if e ∈ m.D then m.D else m.D ++ [e]) ↔ x ∈ m.D ∨ x = e := by
    by_cases c : e ∈ m.D
    · rw [if_pos c]
      exact ⟨h.dn, by have := h.dl; omega, fun x => ⟨.inl, fun q => q.elim id fun q => q ▸ c⟩⟩
    · rw [if_neg c]
      refine ⟨List.nodup_append.mpr ⟨h.dn, by simp, fun a ha b hb q => c ?_⟩, by rw [List.length_append, List.length_singleton]; have := h.dl; omega, fun x => by simp⟩
      rw [List.mem_singleton.mp hb] at q
      exact q ▸ ha
  refine ⟨h.ok, ⟨ks, ek, f, by omega⟩, h.n0, by have := h.ni; show m.n ≤ _; omega, hd.1, ?_, fun x => ?_, hd.2.1⟩
  · refine List.nodup_append.mpr ⟨h.cn.sublist List.filter_sublist, by simp, fun a ha b hb q => ?_⟩
    rw [List.mem_singleton.mp hb] at q
    have := (List.mem_filter.mp ha).2
    rw [decide_eq_true_iff] at this
    exact this q
  · show x ∈ _ ↔ x ∈ (if e ∈ m.D then m.D else m.D ++ [e])
    rw [hd.2.2, List.mem_append, List.mem_filter, List.mem_singleton, decide_eq_true_iff, h.cd]
    constructor
    · rintro (q | q)
      · exact .inl q.1
      · exact .inr q
    · rintro (q | q)
      · by_cases c : x = e
        · exact .inr c
        · exact .inl ⟨q, c⟩
      · exact .inr q
theorem MS.heal {m : Ml} {cs : List (Int × Int)} {i : Nat} (h : MS m cs i) (e : Int × Int) : MS { m with D := m.D.filter fun x => decide (x ≠ e) } (cs.filter fun x => decide (x ≠ e)) (i + 1) := by
  obtain ⟨ks, ek, f, l⟩ := h.keys
  refine ⟨h.ok, ⟨ks, ek, f, by omega⟩, h.n0, by have := h.ni; show m.n ≤ _; omega, h.dn.sublist List.filter_sublist, h.cn.sublist List.filter_sublist, fun x => ?_, Nat.le_trans (List.length_filter_le _ _) (by have := h.dl; omega)⟩
  show x ∈ _ ↔ x ∈ m.D.filter _
  rw [List.mem_filter, List.mem_filter, h.cd]
theorem MS.sort {m : Ml} {cs : List (Int × Int)} {i : Nat} (h : MS m cs i) : (cs.map dot2).mergeSort leP = (m.D.map dot2).mergeSort leP := by
  have tr : ∀ a b c : PB, leP a b = true → leP b c = true → leP a c = true := fun a b c h1 h2 => by
    rw [leP_eq] at *
    rw [decide_eq_true_iff] at *
    exact List.le_trans h1 h2
  have to : ∀ a b : PB, (leP a b || leP b a) = true := fun a b => by
    rw [leP_eq, Bool.or_eq_true, decide_eq_true_iff, decide_eq_true_iff]
    exact List.le_total _ _
  have hp : cs.Perm m.D := (List.perm_ext_iff_of_nodup h.cn h.dn).mpr h.cd
  refine List.Perm.eq_of_pairwise (le := fun a b => leP a b = true) (fun a b ha hb h1 h2 => ?_) (List.pairwise_mergeSort tr to _) (List.pairwise_mergeSort tr to _) (((List.mergeSort_perm _ _).trans (hp.map _)).trans (List.mergeSort_perm _ _).symm)
  rw [List.mem_mergeSort] at ha hb
  obtain ⟨x, _, rfl⟩ := List.mem_map.mp ha
  obtain ⟨y, _, rfl⟩ := List.mem_map.mp hb
  rw [leP_eq, decide_eq_true_iff] at h1 h2
  have e : (dot2 x).1 = (dot2 y).1 := List.le_antisymm h1 h2
  exact Prod.ext e rfl
theorem dots_enc2 (cs : List (Int × Int)) : cs.map WL.dotD = (cs.map dot2).map encP := by
  rw [List.map_map]
  rfl
theorem enc2_shaped (cs : List (Int × Int)) : SeqAt.shaped (.list (((cs.map dot2).mergeSort leP).map encP)) = true := by
  have hp := List.mergeSort_perm (cs.map dot2) leP
  refine shaped_mk ?_ ?_
  · simp only [PyData.canLay0]
    refine canLayAll_map _ fun b hb => ?_
    obtain ⟨d, _, rfl⟩ := List.mem_map.mp (hp.mem_iff.mp hb)
    rfl
  · simp only [PyData.depth]
    refine Nat.le_trans (Nat.succ_le_succ (depthAll_map (n := 1) _ fun b hb => ?_)) (by decide)
    obtain ⟨d, _, rfl⟩ := List.mem_map.mp (hp.mem_iff.mp hb)
    exact Nat.le_refl _
theorem ints_shaped (ys : List Int) : SeqAt.shaped (.list (ys.map .int)) = true := by
  refine shaped_mk ?_ ?_
  · simp only [PyData.canLay0]
    exact canLayAll_map _ fun _ _ => rfl
  · simp only [PyData.depth]
    exact Nat.le_trans (Nat.succ_le_succ (depthAll_map (n := 0) _ fun _ _ => Nat.le_refl _)) (by decide)
theorem msg_lay (e : Int × Int) (v : List Int) : (msgT e v).canLay0 = true ∧ (msgT e v).depth ≤ 3 := by
  constructor
  · have hl : PyData.canLayAll0 (v.map PyData.int) = true := canLayAll_map _ fun _ _ => rfl
    simp [msgT, PyData.canLay0, PyData.canLayAll0]
    exact ⟨by decide +kernel, hl⟩
  · have hl : PyData.depthAll (v.map PyData.int) ≤ 0 := depthAll_map (n := 0) _ fun _ _ => Nat.le_refl _
    simp [msgT, PyData.depth, PyData.depthAll]
    omega
theorem msg_shaped (e : Int × Int) (v : List Int) : SeqAt.shaped (msgT e v) = true := shaped_mk (msg_lay e v).1 (Nat.le_trans (msg_lay e v).2 (by decide))
theorem ans_shaped {M : List (Key × PyData)} {D : List (Int × Int)} {n kind number : Int} (h : MOk M) : SeqAt.shaped (ansD M D n kind number) = true := by
  unfold ansD
  cases hv : valD M (.inl number) with
  | none =>
    show SeqAt.shaped (.list [.none, .str "no message"]) = true
    decide +kernel
  | some d =>
    obtain ⟨e, v, rfl⟩ := h _ _ hv
    obtain ⟨h1, h2⟩ := msg_lay e v
    simp only
    split
    · refine shaped_mk ?_ ?_
      · simp [PyData.canLay0, PyData.canLayAll0, h1]
        decide +kernel
      · simp [PyData.depth, PyData.depthAll]
        omega
    · split
      · decide +kernel
      · split
        · refine shaped_mk ?_ ?_
          · simp [PyData.canLay0, PyData.canLayAll0]
            decide +kernel
          · simp [PyData.depth, PyData.depthAll]
        · split <;> decide +kernel
section
local macro_rules | `(tactic| walk_at "nm") => `(tactic| first
  | ((with_reducible refine name_tag "script" ?_); refine de_name 0 rfl ?_)
  | ((with_reducible refine name_tag "box" ?_); refine de_name 1 rfl ?_)
  | ((with_reducible refine name_tag "mail" ?_); refine de_name 2 rfl ?_)
  | ((with_reducible refine name_tag "model" ?_); refine de_name 3 rfl ?_)
  | ((with_reducible refine name_tag "cuts" ?_); refine de_name 4 rfl ?_)
  | ((with_reducible refine name_tag "count" ?_); refine de_name 5 rfl ?_)
  | ((with_reducible refine name_tag "k" ?_); refine de_name 6 rfl ?_)
  | ((with_reducible refine name_tag "ends" ?_); refine de_name 7 rfl ?_)
  | ((with_reducible refine name_tag "kind" ?_); refine de_name 8 rfl ?_)
  | ((with_reducible refine name_tag "number" ?_); refine de_name 9 rfl ?_)
  | ((with_reducible refine name_tag "body" ?_); refine de_name 10 rfl ?_)
  | ((with_reducible refine name_tag "pair" ?_); refine de_name 11 rfl ?_)
  | ((with_reducible refine name_tag "due" ?_); refine de_name 12 rfl ?_)
  | ((with_reducible refine name_tag "one" ?_); refine de_name 13 rfl ?_))
local macro_rules | `(tactic| walk_at "tn") => `(tactic| show DSs _ [_, _, _, _, _, _, _, _, _, _, _, _, _, _] _ _ _)
theorem ok_law {C CN : Addr} (F : Fun K "law" "law" s_law f fd) (G : Glb K mg) (d1 : Def P w K mg base 1 "_law_number" 2 pNumber) (d2 : Def P w K mg base 1 "_law_take" 2 pTake) (d3 : Def P w K mg base 2 "_law_vector" 1 p_lvec) (d4 : MkD P w K mg base 1 "Mail" C 0 (p_minit P w C)) (d5 : OMet P w K mg base 1 C "put" 3 (p_mput P w C)) (d6 : OMet P w K mg base 1 C "cut" 2 (p_mcut P w C)) (d7 : OMet P w K mg base 1 C "heal" 2 (p_mheal P w C)) (d8 : OMet P w K mg base 1 C "numbers" 0 (p_mnums P w C)) (d9 : OMet P w K mg base 1 C "cut_links" 0 (p_mcuts P w C)) (d10 : OMetX P w K mg base 1 C "look" 1 (x_look P w C CN)) (d11 : Def P w K mg base 1 "_law_due" 5 p_ldue) (d12 : Def P w K mg base 3 "_law_asked" 3 (p_lasked P w C)) (d13 : Def P w K mg base 3 "_law_client_holds" 1 p_lcl) : FnOk P w K mg base CX0 4 f fd ["script"] (spD K 1 pLaw) := by
  refine fn_dl F sc_law fun cdv Ar outer s H E hr ws O Q hl hp => ?_
  obtain ⟨ns, rfl, hn, hp⟩ := hp
  have nd := sc_law.nd
  obtain ⟨g1, g2, g3, g4, g5, g6, g7, g8, g9, g10, g11⟩ := G
  have hu := WL.Room.u1 hr
  refine dss_cons (ds_asg 1 ?_ nd)
  walk_at "ao"
  walk_at "go"
  refine number_i hn (by omega) (by omega) fun m1 => ?_
  walk_at "go"
  intro p0
  show DSs _ _ _ _ _
  refine dss_cons (ds_asg 2 (de_make0 d4 (hr.mono (by decide)) fun a dx => ⟨a, dx, _, rfl, rfl, fun pm pc => ⟨rfl, ?_⟩⟩) nd)
  show DSs _ _ _ _ _
  refine dss_cons (ds_asg 3 (de_dnewK fun pd => ?_) nd)
  show DSs _ _ _ _ _
  refine dss_cons (ds_asg 4 ?_ nd)
  repeat (walk_at "d1")
  show DSs _ _ _ _ _
  refine dss_cons (ds_asg 5 ?_ nd)
  repeat (walk_at "d1")
  show DSs _ _ _ _ _
  refine dss_mid (fun τ' O' => ∃ y1 y2 y3 y4 y5 y6 y7 y8 y9 y10 y11 y12 y13 : Option DL.W, τ' = [some (.s (.list (ns.map .int))), y1, y2, y3, y4, y5, y6, y7, y8, y9, y10, y11, y12, y13]) ?_ ?_
  · refine ds_for (it_range1 (by assumption) ?_)
    walk_at "go"
    refine take_i (j := 5) rfl (by decide) (by decide) fun c m2 hc0 hc1 => ?_
    obtain ⟨B0, hB0⟩ : ∃ B0 : Own, B0 = (dx, Cell.o (.own a)) :: (p0, Cell.l [.int m2]) :: O := ⟨_, rfl⟩
    walk_at "go"
    refine ⟨_, rfl, by omega, by omega, fun i τ' O' => ∃ (m : Ml) (cs : List (Int × Int)) (y1 y6 y7 y8 y9 y10 y11 y12 y13 : Option DL.W), MS m cs i ∧ O' = (pd, .k m.M) :: (mcells P w C m ++ B0) ∧ τ' = [some (.s (.list (ns.map .int))), y1, some (.r (.ref m.a)), some (.r (.ref pd)), some (.d (.list (cs.map WL.dotD))), some (.d (.int m.n)), y6, y7, y8, y9, y10, y11, y12, y13], ⟨⟨a, dx, pm, pc, 0, [], []⟩, [], _, _, _, _, _, _, _, _, _, ⟨(fun k d h => by cases h), ⟨[], rfl, (fun k h => by cases h), Nat.le_refl _⟩, Int.le_refl _, Int.le_refl _, .nil, .nil, fun e => Iff.rfl, Nat.le_refl _⟩, by rw [hB0]; rfl, rfl⟩, ?_, ?_⟩
    · rintro i d τ' O' hd ⟨m, cs, y1, y6, y7, y8, y9, y10, y11, y12, y13, hS, rfl, rfl⟩
      obtain ⟨hi, rfl⟩ := rangeD_at0 hd
      have hi31 : i < 31 := by omega
      have at4 : ∀ (c1 c2 : Addr × Cell) (m : Ml), (c1 :: c2 :: (mcells P w C m ++ B0))[4]? = some (m.a, .x (insC C m.dx (mfl m))) := fun c1 c2 m => mc2 [c1, c2] B0 m
      have hput := fun m : Ml => ml_no m (f := "put") (by decide +kernel) (by decide +kernel) (by decide +kernel)
      have hcut := fun m : Ml => ml_no m (f := "cut") (by decide +kernel) (by decide +kernel) (by decide +kernel)
      have hheal := fun m : Ml => ml_no m (f := "heal") (by decide +kernel) (by decide +kernel) (by decide +kernel)
      have hnum := fun m : Ml => ml_no m (f := "numbers") (by decide +kernel) (by decide +kernel) (by decide +kernel)
      have hcl := fun m : Ml => ml_no m (f := "cut_links") (by decide +kernel) (by decide +kernel) (by decide +kernel)
      have hlook := fun m : Ml => ml_no m (f := "look") (by decide +kernel) (by decide +kernel) (by decide +kernel)
      have hni := hS.ni
      have hn0 := hS.n0
      have hMl := hS.len
      have hDl := hS.dl
      refine dtg_name 6 ?_ nd
      refine dss_cons (ds_asg 1 ?_ nd)
      walk_at "ao"
      walk_at "go"
      refine number_i hn (by omega) (by omega) fun m3 => ?_
      walk_at "go"
      intro pb
      show DSs _ _ _ _ _
      refine dss_cons (ds_asg 7 ?_ nd)
      walk_at "go"
      refine take_i (j := 0) rfl (by decide) (by decide) fun e1 m4 he0 he1 => ?_
      rw [List.set_cons_zero]
      walk_at "go"
      refine take_i (j := 0) rfl (by decide) (by decide) fun e2 m5 he2 he3 => ?_
      rw [List.set_cons_zero]
      walk_at "go"
      refine take_i (j := 0) rfl (by decide) (by decide) fun kd m6 hk0 hk1 => ?_
      rw [List.set_cons_zero]
      walk_at "go"
      refine take_i (j := 0) rfl (by omega) (by omega) fun nb m7 hb0 hb1 => ?_
      rw [List.set_cons_zero]
      show DSs _ _ _ _ _
      obtain ⟨e, he⟩ : ∃ e : Int × Int, e = (e1, e2) := ⟨_, rfl⟩
      have hed : PyData.tuple [.int e1, .int e2] = WL.dotD e := by rw [he]; rfl
      rw [hed]
      refine dss_mid (fun τ' O' => ∃ (m' : Ml) (cs' : List (Int × Int)) (mm : Int) (y10 y11 y12 y13 : Option DL.W), MS m' cs' (i + 1) ∧ O' = (pb, .l [.int mm]) :: (pd, .k m'.M) :: (mcells P w C m' ++ B0) ∧ τ' = [some (.s (.list (ns.map .int))), some (.r (.ref pb)), some (.r (.ref m'.a)), some (.r (.ref pd)), some (.d (.list (cs'.map WL.dotD))), some (.d (.int m'.n)), some (.d (.int i)), some (.d (WL.dotD e)), some (.d (.int kd)), some (.d (.int nb)), y10, y11, y12, y13]) ?_ ?_
      · refine ds_if ?_
        walk_at "go"
        refine if_d2 (fun h => ?_) (fun h => ?_)
        · refine dss_cons (ds_asg 10 ?_ nd)
          walk_at "go"
          refine lvec_i (j := 0) rfl fun v m8 hv => ?_
          rw [List.set_cons_zero]
          walk_at "go"
          refine de_om d5 (hr.mono (by decide)) (de_name 2 rfl ⟨m.a, 4, m.dx, mfl m, rfl, at4 _ _ m, hput m, ?_⟩)
          refine da_cons (de_ix (de_name 7 rfl (de_int (ix_t (ds := [.int e.1, .int e.2]) rfl ?_))))
          refine da_cons (de_ix (de_name 7 rfl (de_int (ix_t (ds := [.int e.1, .int e.2]) rfl ?_))))
          refine da_cons (de_name 10 rfl (da_nil ⟨rfl, [(pb, .l [.int m8]), (pd, .k m.M)], B0, m, .int e.1, .int e.2, _, rfl, rfl, by omega, ?_⟩))
          refine de_name 5 rfl (b_neI ?_)
          rw [decide_eq_true rfl]
          refine tb_i (if_f rfl (dss_nil ?_))
          show DSs _ _ ((pb, Cell.l [.int m8]) :: (pd, Cell.k m.M) :: (mcells P w C { m with n := m.n + 1, M := putD m.M (.inl m.n) (msgT e v) } ++ B0)) _ _
          refine dss_cons (ds_subK hu ?_)
          refine de_bin (de_name 7 rfl (de_tup ?_))
          refine da_cons (de_name 10 rfl (da_nil ⟨_, rfl, by rw [sizeLine_eq, List.length_singleton]; decide, ?_⟩))
          refine b_addT (ds := [.int e.1, .int e.2]) (by rw [sizeLine_eq]; exact (by decide : 2 + 1 ≤ 16777216)) ?_
          refine de_name 3 rfl (de_name 5 rfl ⟨pd, 1, m.M, .inl m.n, _, rfl, rfl, rfl, rfl, by rw [sizeLine_eq]; omega, ?_⟩)
          show DSs _ _ ((pb, Cell.l [.int m8]) :: (pd, Cell.k (putD m.M (.inl m.n) (msgT e v))) :: (mcells P w C { m with n := m.n + 1, M := putD m.M (.inl m.n) (msgT e v) } ++ B0)) _ _
          refine dss_one (ds_asg 5 ?_ nd)
          walk_at "go"
          exact ⟨{ m with n := m.n + 1, M := putD m.M (.inl m.n) (msgT e v) }, cs, m8, _, _, _, _, hS.put e v, rfl, rfl⟩
        refine dss_one (ds_if ?_)
        walk_at "go"
        have fno : ((cs.map WL.dotD).filter (fun d => !PyData.eqv d (WL.dotD e))).map (fun d => d) = (cs.filter fun x => decide (x ≠ e)).map WL.dotD := by
          rw [List.map_id', List.filter_map]
          refine congrArg _ (List.filter_congr fun x _ => ?_)
          show (!PyData.eqv (WL.dotD x) (WL.dotD e)) = decide (x ≠ e)
          rw [dot_eqv, decide_not]
        have hcl2 : cs.length ≤ 1000 := by
          have hp : cs.Perm m.D := (List.perm_ext_iff_of_nodup hS.cn hS.dn).mpr hS.cd
          have := hp.length_eq
          omega
        refine if_d2 (fun h2 => ?_) (fun h2 => ?_)
        · refine dss_cons (ds_expr (de_om d6 (hr.mono (by decide)) (de_name 2 rfl ⟨m.a, 4, m.dx, mfl m, rfl, at4 _ _ m, hcut m, ?_⟩)))
          refine da_cons (de_ix (de_name 7 rfl (de_int (ix_t (ds := [.int e.1, .int e.2]) rfl ?_))))
          refine da_cons (de_ix (de_name 7 rfl (de_int (ix_t (ds := [.int e.1, .int e.2]) rfl ?_))))
          refine da_nil ⟨rfl, [(pb, .l [.int m7]), (pd, .k m.M)], B0, m, e, rfl, rfl, by omega, ?_⟩
          show DSs _ _ _ _ _
          refine dss_one (ds_asg 4 (de_bin ?_) nd)
          refine de_lc1 11 nd (blkOk_by (N := ["script", "box", "mail", "model", "cuts", "count", "k", "ends", "kind", "number", "body", "pair", "due", "one"]) (sc := defScope s_law) (by decide +kernel)) (it_list (de_name 4 rfl ⟨_, rfl, ?_⟩))
          refine lcd_filter (fun d => !PyData.eqv d (WL.dotD e)) (fun d => d) (by rw [List.length_map, sizeLine_eq]; omega) (fun i2 d2 hd2 => ?_) (fun q => ?_)
          · obtain ⟨x, hx, rfl⟩ := List.mem_map.mp (List.mem_of_getElem? hd2)
            refine ⟨_, tgok_name 11 (by decide), fun p acc s H C' cl fp => ⟨?_, fun hk => ?_⟩⟩
            · refine dt_cmp (de_name 11 rfl (de_name 7 rfl ?_))
              refine b_ne (Room.units hr) (dot_shaped x) (dot_shaped e) ?_
              exact tb_i ⟨rfl, rfl⟩
            · exact de_name 11 rfl ⟨rfl, rfl⟩
          rw [fno]
          refine de_lst (da_cons (de_name 7 rfl (da_nil ⟨_, rfl, by rw [sizeLine_eq]; exact (by decide : 1 ≤ 16777216), ?_⟩)))
          refine b_addL rdl rdl (by rw [List.length_map, sizeLine_eq]; have := List.length_filter_le (fun x => decide (x ≠ e)) cs; simp only [List.length_singleton]; omega) ?_
          exact ⟨_, (cs.filter fun x => decide (x ≠ e)) ++ [e], m7, _, _, _, _, hS.cut e, rfl, by rw [List.map_append]; rfl⟩
        refine dss_one (ds_if ?_)
        walk_at "go"
        refine if_d2 (fun h3 => ?_) (fun h3 => ?_)
        · refine dss_cons (ds_expr (de_om d7 (hr.mono (by decide)) (de_name 2 rfl ⟨m.a, 4, m.dx, mfl m, rfl, at4 _ _ m, hheal m, ?_⟩)))
          refine da_cons (de_ix (de_name 7 rfl (de_int (ix_t (ds := [.int e.1, .int e.2]) rfl ?_))))
          refine da_cons (de_ix (de_name 7 rfl (de_int (ix_t (ds := [.int e.1, .int e.2]) rfl ?_))))
          refine da_nil ⟨rfl, [(pb, .l [.int m7]), (pd, .k m.M)], B0, m, e, rfl, rfl, ?_⟩
          show DSs _ _ _ _ _
          refine dss_one (ds_setLc1 4 11 nd (blkOk_by (N := ["script", "box", "mail", "model", "cuts", "count", "k", "ends", "kind", "number", "body", "pair", "due", "one"]) (sc := defScope s_law) (by decide +kernel)) (it_list (de_name 4 rfl ⟨_, rfl, ?_⟩)))
          refine lcd_filter (fun d => !PyData.eqv d (WL.dotD e)) (fun d => d) (by rw [List.length_map, sizeLine_eq]; omega) (fun i2 d2 hd2 => ?_) (fun q => ?_)
          · obtain ⟨x, hx, rfl⟩ := List.mem_map.mp (List.mem_of_getElem? hd2)
            refine ⟨_, tgok_name 11 (by decide), fun p acc s H C' cl fp => ⟨?_, fun hk => ?_⟩⟩
            · refine dt_cmp (de_name 11 rfl (de_name 7 rfl ?_))
              refine b_ne (Room.units hr) (dot_shaped x) (dot_shaped e) ?_
              exact tb_i ⟨rfl, rfl⟩
            · exact de_name 11 rfl ⟨rfl, rfl⟩
          rw [fno]
          exact ⟨_, cs.filter fun x => decide (x ≠ e), m7, _, _, _, _, hS.heal e, rfl, rfl⟩
        refine dss_cons (ds_asg 12 (de_call d11 (hr.mono (by decide)) (da_cons (de_name 3 rfl (da_cons (de_name 4 rfl (da_cons (de_name 5 rfl (da_cons ?_)))))))) nd)
        walk_at "go"
        refine ⟨[(pb, .l [.int m7])], mcells P w C m ++ B0, pd, m.M, cs, m.D, m.n, kd - 4, nb, rfl, rfl, hS.ok, by omega, hS.cd, by omega, by omega, ?_⟩
        show DSs _ _ ((pb, Cell.l [.int m7]) :: (pd, Cell.k (aftM m.M m.n (kd - 4) nb)) :: (mcells P w C m ++ B0)) _ _
        refine dss_cons (ds_if (dt_cmp (de_call d12 (hr.mono (by decide)) (da_cons (de_name 2 rfl (da_cons ?_))))))
        walk_at "go"
        refine ⟨[(pd, .k (aftM m.M m.n (kd - 4) nb))], B0, pb, _, m, kd - 4, nb, rfl, rfl, hS.ok, by omega, by omega, by omega, ?_⟩
        refine de_name 12 rfl ?_
        refine b_ne (Room.units hr) (ans_shaped hS.ok) (ans_shaped hS.ok) ?_
        rw [eqv_self (ans_shaped hS.ok)]
        refine tb_i (if_f rfl (dss_nil ?_))
        show DSs _ _ ((pb, Cell.l [.int m7]) :: (pd, Cell.k (aftM m.M m.n (kd - 4) nb)) :: (mcells P w C { m with n := aftN m.M m.n (kd - 4) nb, M := aftM m.M m.n (kd - 4) nb } ++ B0)) _ _
        have hA := hS.aft (kd - 4) nb
        have hfin : ∀ (n' : Int) (z : Option DL.W), n' = aftN m.M m.n (kd - 4) nb → ∃ (m' : Ml) (cs' : List (Int × Int)) (mm : Int) (z10 z11 z12 z13 : Option DL.W), MS m' cs' (i + 1) ∧ ((pb, Cell.l [.int m7]) :: (pd, Cell.k (aftM m.M m.n (kd - 4) nb)) :: (mcells P w C { m with n := aftN m.M m.n (kd - 4) nb, M := aftM m.M m.n (kd - 4) nb } ++ B0)) = (pb, .l [.int mm]) :: (pd, .k m'.M) :: (mcells P w C m' ++ B0) ∧ [some (.s (.list (ns.map .int))), some (.r (.ref pb)), some (.r (.ref m.a)), some (.r (.ref pd)), some (.d (.list (cs.map WL.dotD))), some (.d (.int n')), some (.d (.int i)), some (.d (WL.dotD e)), some (.d (.int kd)), some (.d (.int nb)), y10, y11, z, y13] = [some (.s (.list (ns.map .int))), some (.r (.ref pb)), some (.r (.ref m'.a)), some (.r (.ref pd)), some (.d (.list (cs'.map WL.dotD))), some (.d (.int m'.n)), some (.d (.int i)), some (.d (WL.dotD e)), some (.d (.int kd)), some (.d (.int nb)), z10, z11, z12, z13] := fun n' z hn' => by
          subst hn'
          exact ⟨{ m with n := aftN m.M m.n (kd - 4) nb, M := aftM m.M m.n (kd - 4) nb }, cs, m7, y10, y11, z, y13, hA, rfl, rfl⟩
        refine dss_one (ds_if ?_)
        walk_at "go"
        by_cases h6 : kd = 6
        · rw [decide_eq_true h6]
          refine if_t rfl ?_
          unfold ansD
          cases hv : valD m.M (.inl nb) with
          | none =>
            walk_at "go"
            exact hfin m.n _ (by unfold aftN; rw [hv, if_neg (by simp)])
          | some d =>
            have q2 : kd - 4 = 2 := by omega
            simp only [if_neg (show ¬ kd - 4 = 0 by omega), if_neg (show ¬ kd - 4 = 1 by omega), if_pos q2]
            walk_at "go"
            exact hfin (m.n + 1) _ (by unfold aftN; rw [hv, if_pos ⟨q2, rfl⟩])
        · rw [decide_eq_false h6]
          refine if_f (by decide) (if_f (by decide) (dss_nil ?_))
          exact hfin m.n _ (by unfold aftN; rw [if_neg (fun q => by omega)])
      rintro τ' O' ⟨m', cs', mm, y10', y11', y12', y13', hS', rfl, rfl⟩
      obtain ⟨ks, hks, hkl, hkn⟩ := hS'.keys
      have hD' := hS'.dl
      have hn' := hS'.ni
      refine dss_cons (ds_sb (ds_expr (de_met PySem.F.plainAttrs_list PySem.F.slot_list_append PySem.F.type_list_append ?_)))
      refine de_om0 d8 (hr.mono (by decide)) (de_name 2 rfl ⟨m'.a, 4, m'.dx, mfl m', rfl, at4 _ _ m', hnum m', [(pb, .l [.int mm]), (pd, .k m'.M)], B0, m', ks, rfl, rfl, hks, by omega, fun ys q hy1 hy2 => ?_⟩)
      refine ⟨tyd_l (rdlo 0 rfl), ?_⟩
      walk_at "go"
      refine m_append (j := 0) rfl (by rw [List.length_map, hy1.length_eq, sizeLine_eq]; omega) ?_
      refine ⟨_, Les.drop _, ?_⟩
      show DSs _ _ ((pb, Cell.l [PyData.int mm]) :: (pd, Cell.k m'.M) :: (mcells P w C m' ++ B0)) _ _
      refine dss_cons (ds_sb (ds_expr (de_met PySem.F.plainAttrs_list PySem.F.slot_list_append PySem.F.type_list_append ?_)))
      refine de_om0 d9 (hr.mono (by decide)) (de_name 2 rfl ⟨m'.a, 4, m'.dx, mfl m', rfl, at4 _ _ m', hcl m', [(pb, .l [.int mm]), (pd, .k m'.M)], B0, m', rfl, rfl, hS'.dn, fun q => ?_⟩)
      refine ⟨tyd_l (rdlo 0 rfl), ?_⟩
      walk_at "go"
      refine m_append (j := 0) rfl (by rw [List.length_map, (List.mergeSort_perm _ _).length_eq, List.length_map, sizeLine_eq]; omega) ?_
      refine ⟨_, Les.drop _, ?_⟩
      show DSs _ _ ((pb, Cell.l [PyData.int mm]) :: (pd, Cell.k m'.M) :: (mcells P w C m' ++ B0)) _ _
      refine dss_cons (ds_sb (ds_if (dt_w (dw_or (dt_cmp ?_)))))
      refine de_om0 d8 (hr.mono (by decide)) (de_name 2 rfl ⟨m'.a, 4, m'.dx, mfl m', rfl, at4 _ _ m', hnum m', [(pb, .l [.int mm]), (pd, .k m'.M)], B0, m', ks, rfl, rfl, hks, by omega, fun ys1 q1 hya1 hya2 => ?_⟩)
      refine de_callB "sorted" (by assumption) boot_sorted (da_cons (de_name 3 rfl (da_nil (c_sortedKI 2 rfl hks (by omega) fun ys2 q2 hyb1 hyb2 => ?_))))
      have eys : ys1 = ys2 := List.Perm.eq_of_pairwise (le := fun a b : Int => a ≤ b) (fun a b _ _ h1 h2 => Int.le_antisymm h1 h2) hya2 hyb2 (hya1.trans hyb1.symm)
      subst eys
      refine b_neR (Room.units hr) (rdo 1 rfl) (rdo 0 rfl) (ints_shaped _) (ints_shaped _) ?_
      rw [eqv_self (ints_shaped _)]
      refine tb_i ?_
      refine (if_neg (by decide)).mpr (dw_or1 (dt_cmp ?_))
      refine de_om0 d9 (hr.mono (by decide)) (de_name 2 rfl ⟨m'.a, 6, m'.dx, mfl m', rfl, mc2 [(q2, .l (ys1.map .int)), (q1, .l (ys1.map .int)), (pb, .l [.int mm]), (pd, .k m'.M)] B0 m', hcl m', [(q2, .l (ys1.map .int)), (q1, .l (ys1.map .int)), (pb, .l [.int mm]), (pd, .k m'.M)], B0, m', rfl, rfl, hS'.dn, fun q3 => ?_⟩)
      refine de_callB "sorted" (by assumption) boot_sorted (da_cons (de_name 4 rfl (da_nil ?_)))
      refine c_sortP (bs := cs'.map dot2) (by rw [← dots_enc2]; exact rdl) (k := 2) (fun b hb => ?_) (by decide) ?_ (fun b hb => ?_) (fun b hb => ?_) ?_
      · obtain ⟨d, _, rfl⟩ := List.mem_map.mp hb
        rfl
      · rw [List.map_map]
        refine List.Pairwise.map _ (fun x y hxy q => hxy ?_) hS'.cn
        have : [x.1, x.2] = [y.1, y.2] := q
        simp only [List.cons.injEq, and_true] at this
        exact Prod.ext this.1 this.2
      · obtain ⟨d, _, rfl⟩ := List.mem_map.mp hb
        rfl
      · obtain ⟨d, _, rfl⟩ := List.mem_map.mp hb
        have : (encP (dot2 d)).depth ≤ 2 := by simp [encP, dot2, PyData.depth, PyData.depthAll]
        have h5 : (Ar.deeper (envOfC "law" (defScope s_law) s.heap.objs.size f cdv)).units + 5 < cLine := by
          have := DL.Room.u65 hr
          omega
        show (Ar.deeper (envOfC "law" (defScope s_law) s.heap.objs.size f cdv)).units + 2 + _ < cLine
        omega
      refine b_neR (Room.units hr) (rdo 0 rfl) rdw (enc2_shaped _) (enc2_shaped _) ?_
      rw [hS'.sort, eqv_self (enc2_shaped _)]
      refine tb_i (if_f rfl (dss_nil ?_))
      refine ⟨(pd, Cell.k m'.M) :: (mcells P w C m' ++ B0), ⟨[_, _, _, _], List.perm_append_comm⟩, ?_⟩
      show DSs _ _ _ _ _
      refine dss_one (ds_forK 0 rfl fun od vs => ?_)
      refine de_name 3 rfl ⟨rfl, fun i2 τ' O' => ∃ y13 : Option DL.W, O' = (pd, .x (FZ od vs m'.M)) :: (mcells P w C m' ++ B0) ∧ τ' = [some (.s (.list (ns.map .int))), some (.r (.ref pb)), some (.r (.ref m'.a)), some (.r (.ref pd)), some (.d (.list (cs'.map WL.dotD))), some (.d (.int m'.n)), some (.d (.int i)), some (.d (WL.dotD e)), some (.d (.int kd)), some (.d (.int nb)), y10', y11', y12', y13], ⟨_, rfl, rfl⟩, ?_, ?_, ?_⟩
      · rintro i2 τ' O' ⟨y13, rfl, rfl⟩
        exact ⟨0, rfl⟩
      · rintro i2 key d τ' O' hd ⟨y13, rfl, rfl⟩
        refine dtg_name 13 ?_ nd
        have hkm : key ∈ m'.M.map (·.1) := List.mem_map.mpr ⟨_, List.mem_of_getElem? hd, rfl⟩
        rw [hks] at hkm
        obtain ⟨n0, _, rfl⟩ := List.mem_map.mp hkm
        have hv : ∃ d', valD m'.M (.inl n0) = some d' := by
          have hmem : (Sum.inl n0, d) ∈ m'.M := List.mem_of_getElem? hd
          unfold valD
          cases ef : m'.M.find? (fun kv => decide (kv.1 = (Sum.inl n0 : Key))) with
          | none =>
            have := List.find?_eq_none.mp ef _ hmem
            simp at this
          | some x => exact ⟨_, rfl⟩
        obtain ⟨d', hv⟩ := hv
        obtain ⟨e', v', hd'⟩ := hS'.ok _ _ hv
        refine dss_one (ds_if (dt_cmp ?_))
        refine de_omX d10 (hr.mono (by decide)) ra_none (de_name 2 rfl ⟨m'.a, 3, m'.dx, mfl m', rfl, mc2 [(pd, Cell.x (FZ od vs m'.M))] B0 m', hlook m', da_cons (de_name 13 rfl (da_nil ⟨rfl, ?_⟩))⟩)
        refine look_x (A := [(pd, Cell.x (FZ od vs m'.M))]) rfl (fun d2 hv2 => ?_) (fun hv2 => ?_)
        · rw [hv] at hv2
          cases hv2
          refine de_fget hu (de_name 3 rfl (de_name 13 rfl ⟨pd, 0, od, vs, m'.M, .inl n0, d', rfl, rfl, rfl, hv, ?_⟩))
          rw [hd']
          refine b_ne (Room.units hr) (msg_shaped e' v') (msg_shaped e' v') ?_
          rw [eqv_self (msg_shaped e' v')]
          refine tb_i (if_f rfl (dss_nil ?_))
          exact ⟨_, rfl, rfl⟩
        · rw [hv] at hv2
          cases hv2
      · rintro τ' O' ⟨y13, rfl, rfl⟩
        refine ⟨0, rfl, ?_⟩
        exact ⟨m', cs', _, _, _, _, _, _, _, _, _, hS', rfl, rfl⟩
    · rintro τ' O' ⟨m, cs, y1, y6, y7, y8, y9, y10, y11, y12, y13, hS, rfl, rfl⟩
      exact ⟨_, _, _, _, _, _, _, _, _, _, _, _, _, rfl⟩
  rintro τ' O' ⟨y1, y2, y3, y4, y5, y6, y7, y8, y9, y10, y11, y12, y13, rfl⟩
  refine dss_one (ds_ret (de_call d13 (hr.mono (by decide)) (da_cons (de_name 0 rfl (da_nil ⟨rfl, ns, rfl, hn, ?_⟩)))))
  exact hp
end

end
end K60

namespace K60
set_option maxHeartbeats 0 in
theorem all_mk {l : PySem.W.OpenLaw} {w : World} {K : PySem.W.Frag} {h : Heap} {mg : Str → Option Value} {fa : Addr} (X : K.In h) (G : h.Ns mainGlobals mg) (hfa : mg "law" = some (.ref fa))
    {f1 f2 f3 f4 f5 f6 f7 f8 f9 f10 f11 f12 f13 f14 f15 f16 f17 f18 f19 f20 f21 f22 : Addr} {od1 an1 od2 an2 od3 an3 od4 an4 od5 an5 od6 an6 od7 an7 od8 an8 od9 an9 od10 an10 od11 an11 od12 an12 od13 an13 od14 an14 od15 an15 od16 an16 od17 an17 od18 an18 od19 an19 od20 an20 od21 an21 od22 an22 : Option Addr}
    {sl1 sl2 sl3 sl4 sl5 sl6 sl7 sl8 sl9 sl10 sl11 sl12 sl13 sl14 sl15 sl16 sl17 sl18 sl19 sl20 sl21 sl22 : Array (Option Value)} {oc1 kV1 dc1 pm1 cd1 ct1 oc2 kV2 dc2 pm2 cd2 ct2 oc3 kV3 dc3 pm3 cd3 ct3 oc4 kV4 dc4 pm4 cd4 ct4 oc5 kV5 dc5 pm5 cd5 ct5 oc6 kV6 dc6 pm6 cd6 ct6 oc7 kV7 dc7 pm7 cd7 ct7 oc8 kV8 dc8 pm8 cd8 ct8 oc9 kV9 dc9 pm9 cd9 ct9 oc10 kV10 dc10 pm10 cd10 ct10 oc11 kV11 dc11 pm11 cd11 ct11 oc12 kV12 dc12 pm12 cd12 ct12 oc13 kV13 dc13 pm13 cd13 ct13 oc14 kV14 dc14 pm14 cd14 ct14 oc15 kV15 dc15 pm15 cd15 ct15 oc16 kV16 dc16 pm16 cd16 ct16 oc17 kV17 dc17 pm17 cd17 ct17 oc18 kV18 dc18 pm18 cd18 ct18 oc19 kV19 dc19 pm19 cd19 ct19 oc20 kV20 dc20 pm20 cd20 ct20 oc21 kV21 dc21 pm21 cd21 ct21 oc22 kV22 dc22 pm22 cd22 ct22 : Value}
    {CMail : Addr} (aCMail : PySem.W.nsIn K mainGlobals "Mail" = some (some (.ref CMail))) (pgCMail : PySem.W.plainGet K CMail Str.empty = true) (hdCMail : PySem.W.hasDictIn K CMail = true) (poCMail : PySem.W.plainOver K CMail = true) (saCMail : PySem.W.findIn K (.ref CMail) "__setattr__" = some (some (.builtin "object.__setattr__"))) (mkCMail : PySem.W.makesIn K CMail = true) (kcCMail : PySem.W.keepIn K (.ref CMail) = true)
    (n0CMail : PySem.W.findIn K (.ref CMail) "_next" = some none) (n1CMail : PySem.W.findIn K (.ref CMail) "_messages" = some none) (n2CMail : PySem.W.findIn K (.ref CMail) "_cut_links" = some none)
    {CClient : Addr} (aCClient : PySem.W.nsIn K mainGlobals "Client" = some (some (.ref CClient))) (pgCClient : PySem.W.plainGet K CClient Str.empty = true) (hdCClient : PySem.W.hasDictIn K CClient = true) (poCClient : PySem.W.plainOver K CClient = true) (saCClient : PySem.W.findIn K (.ref CClient) "__setattr__" = some (some (.builtin "object.__setattr__"))) (mkCClient : PySem.W.makesIn K CClient = true) (kcCClient : PySem.W.keepIn K (.ref CClient) = true)
    (n0CClient : PySem.W.findIn K (.ref CClient) "token" = some none)
    (a1 : PySem.W.nsIn K mainGlobals "covers" = some (some (.ref f1))) (l1 : K.lookup f1 = some ⟨oc1, od1, .func (PySem.W.fnOf "covers" "covers" (defArgs s_covers) (defBody s_covers) (defScope s_covers) .none kV1 dc1 pm1 an1 cd1 ct1), sl1⟩) (c1 : PySem.W.codeIn K cd1 "covers" = true) (k1 : PySem.W.keepIn K (.ref f1) = true)
    (a2 : PySem.W.nsIn K mainGlobals "joined" = some (some (.ref f2))) (l2 : K.lookup f2 = some ⟨oc2, od2, .func (PySem.W.fnOf "joined" "joined" (defArgs s_joined) (defBody s_joined) (defScope s_joined) .none kV2 dc2 pm2 an2 cd2 ct2), sl2⟩) (c2 : PySem.W.codeIn K cd2 "joined" = true) (k2 : PySem.W.keepIn K (.ref f2) = true)
    (a3 : PySem.W.nsIn K mainGlobals "_law_number" = some (some (.ref f3))) (l3 : K.lookup f3 = some ⟨oc3, od3, .func (PySem.W.fnOf "_law_number" "_law_number" (defArgs s_law_number) (defBody s_law_number) (defScope s_law_number) .none kV3 dc3 pm3 an3 cd3 ct3), sl3⟩) (c3 : PySem.W.codeIn K cd3 "_law_number" = true) (k3 : PySem.W.keepIn K (.ref f3) = true)
    (a4 : PySem.W.nsIn K mainGlobals "_law_take" = some (some (.ref f4))) (l4 : K.lookup f4 = some ⟨oc4, od4, .func (PySem.W.fnOf "_law_take" "_law_take" (defArgs s_law_take) (defBody s_law_take) (defScope s_law_take) .none kV4 dc4 pm4 an4 cd4 ct4), sl4⟩) (c4 : PySem.W.codeIn K cd4 "_law_take" = true) (k4 : PySem.W.keepIn K (.ref f4) = true)
    (a5 : PySem.W.nsIn K mainGlobals "_law_vector" = some (some (.ref f5))) (l5 : K.lookup f5 = some ⟨oc5, od5, .func (PySem.W.fnOf "_law_vector" "_law_vector" (defArgs s_law_vector) (defBody s_law_vector) (defScope s_law_vector) .none kV5 dc5 pm5 an5 cd5 ct5), sl5⟩) (c5 : PySem.W.codeIn K cd5 "_law_vector" = true) (k5 : PySem.W.keepIn K (.ref f5) = true)
    (a6 : PySem.W.nsIn K mainGlobals "_law_client_holds" = some (some (.ref f6))) (l6 : K.lookup f6 = some ⟨oc6, od6, .func (PySem.W.fnOf "_law_client_holds" "_law_client_holds" (defArgs s_law_client_holds) (defBody s_law_client_holds) (defScope s_law_client_holds) .none kV6 dc6 pm6 an6 cd6 ct6), sl6⟩) (c6 : PySem.W.codeIn K cd6 "_law_client_holds" = true) (k6 : PySem.W.keepIn K (.ref f6) = true)
    (a7 : PySem.W.nsIn K mainGlobals "_law_asked" = some (some (.ref f7))) (l7 : K.lookup f7 = some ⟨oc7, od7, .func (PySem.W.fnOf "_law_asked" "_law_asked" (defArgs s_law_asked) (defBody s_law_asked) (defScope s_law_asked) .none kV7 dc7 pm7 an7 cd7 ct7), sl7⟩) (c7 : PySem.W.codeIn K cd7 "_law_asked" = true) (k7 : PySem.W.keepIn K (.ref f7) = true)
    (a8 : PySem.W.nsIn K mainGlobals "_law_due" = some (some (.ref f8))) (l8 : K.lookup f8 = some ⟨oc8, od8, .func (PySem.W.fnOf "_law_due" "_law_due" (defArgs s_law_due) (defBody s_law_due) (defScope s_law_due) .none kV8 dc8 pm8 an8 cd8 ct8), sl8⟩) (c8 : PySem.W.codeIn K cd8 "_law_due" = true) (k8 : PySem.W.keepIn K (.ref f8) = true)
    (a9 : PySem.W.nsIn K mainGlobals "law" = some (some (.ref f9))) (l9 : K.lookup f9 = some ⟨oc9, od9, .func (PySem.W.fnOf "law" "law" (defArgs s_law) (defBody s_law) (defScope s_law) .none kV9 dc9 pm9 an9 cd9 ct9), sl9⟩) (c9 : PySem.W.codeIn K cd9 "law" = true) (k9 : PySem.W.keepIn K (.ref f9) = true)
    (a10 : PySem.W.findIn K (.ref CMail) "__init__" = some (some (.ref f10))) (i10 : PySem.W.isFn K (.ref f10) = true) (l10 : K.lookup f10 = some ⟨oc10, od10, .func (PySem.W.fnOf "__init__" "Mail.__init__" (defArgs s_Mail_init) (defBody s_Mail_init) (defScope s_Mail_init) .none kV10 dc10 pm10 an10 cd10 ct10), sl10⟩) (c10 : PySem.W.codeIn K cd10 "Mail.__init__" = true) (k10 : PySem.W.keepIn K (.ref f10) = true)
    (a11 : PySem.W.findIn K (.ref CMail) "put" = some (some (.ref f11))) (i11 : PySem.W.isFn K (.ref f11) = true) (l11 : K.lookup f11 = some ⟨oc11, od11, .func (PySem.W.fnOf "put" "Mail.put" (defArgs s_Mail_put) (defBody s_Mail_put) (defScope s_Mail_put) .none kV11 dc11 pm11 an11 cd11 ct11), sl11⟩) (c11 : PySem.W.codeIn K cd11 "Mail.put" = true) (k11 : PySem.W.keepIn K (.ref f11) = true)
    (a12 : PySem.W.findIn K (.ref CMail) "look" = some (some (.ref f12))) (i12 : PySem.W.isFn K (.ref f12) = true) (l12 : K.lookup f12 = some ⟨oc12, od12, .func (PySem.W.fnOf "look" "Mail.look" (defArgs s_Mail_look) (defBody s_Mail_look) (defScope s_Mail_look) .none kV12 dc12 pm12 an12 cd12 ct12), sl12⟩) (c12 : PySem.W.codeIn K cd12 "Mail.look" = true) (k12 : PySem.W.keepIn K (.ref f12) = true)
    (a13 : PySem.W.findIn K (.ref CMail) "lose" = some (some (.ref f13))) (i13 : PySem.W.isFn K (.ref f13) = true) (l13 : K.lookup f13 = some ⟨oc13, od13, .func (PySem.W.fnOf "lose" "Mail.lose" (defArgs s_Mail_lose) (defBody s_Mail_lose) (defScope s_Mail_lose) .none kV13 dc13 pm13 an13 cd13 ct13), sl13⟩) (c13 : PySem.W.codeIn K cd13 "Mail.lose" = true) (k13 : PySem.W.keepIn K (.ref f13) = true)
    (a14 : PySem.W.findIn K (.ref CMail) "double" = some (some (.ref f14))) (i14 : PySem.W.isFn K (.ref f14) = true) (l14 : K.lookup f14 = some ⟨oc14, od14, .func (PySem.W.fnOf "double" "Mail.double" (defArgs s_Mail_double) (defBody s_Mail_double) (defScope s_Mail_double) .none kV14 dc14 pm14 an14 cd14 ct14), sl14⟩) (c14 : PySem.W.codeIn K cd14 "Mail.double" = true) (k14 : PySem.W.keepIn K (.ref f14) = true)
    (a15 : PySem.W.findIn K (.ref CMail) "check_link" = some (some (.ref f15))) (i15 : PySem.W.isFn K (.ref f15) = true) (l15 : K.lookup f15 = some ⟨oc15, od15, .func (PySem.W.fnOf "check_link" "Mail.check_link" (defArgs s_Mail_check_link) (defBody s_Mail_check_link) (defScope s_Mail_check_link) .none kV15 dc15 pm15 an15 cd15 ct15), sl15⟩) (c15 : PySem.W.codeIn K cd15 "Mail.check_link" = true) (k15 : PySem.W.keepIn K (.ref f15) = true)
    (a16 : PySem.W.findIn K (.ref CMail) "cut" = some (some (.ref f16))) (i16 : PySem.W.isFn K (.ref f16) = true) (l16 : K.lookup f16 = some ⟨oc16, od16, .func (PySem.W.fnOf "cut" "Mail.cut" (defArgs s_Mail_cut) (defBody s_Mail_cut) (defScope s_Mail_cut) .none kV16 dc16 pm16 an16 cd16 ct16), sl16⟩) (c16 : PySem.W.codeIn K cd16 "Mail.cut" = true) (k16 : PySem.W.keepIn K (.ref f16) = true)
    (a17 : PySem.W.findIn K (.ref CMail) "heal" = some (some (.ref f17))) (i17 : PySem.W.isFn K (.ref f17) = true) (l17 : K.lookup f17 = some ⟨oc17, od17, .func (PySem.W.fnOf "heal" "Mail.heal" (defArgs s_Mail_heal) (defBody s_Mail_heal) (defScope s_Mail_heal) .none kV17 dc17 pm17 an17 cd17 ct17), sl17⟩) (c17 : PySem.W.codeIn K cd17 "Mail.heal" = true) (k17 : PySem.W.keepIn K (.ref f17) = true)
    (a18 : PySem.W.findIn K (.ref CMail) "numbers" = some (some (.ref f18))) (i18 : PySem.W.isFn K (.ref f18) = true) (l18 : K.lookup f18 = some ⟨oc18, od18, .func (PySem.W.fnOf "numbers" "Mail.numbers" (defArgs s_Mail_numbers) (defBody s_Mail_numbers) (defScope s_Mail_numbers) .none kV18 dc18 pm18 an18 cd18 ct18), sl18⟩) (c18 : PySem.W.codeIn K cd18 "Mail.numbers" = true) (k18 : PySem.W.keepIn K (.ref f18) = true)
    (a19 : PySem.W.findIn K (.ref CMail) "cut_links" = some (some (.ref f19))) (i19 : PySem.W.isFn K (.ref f19) = true) (l19 : K.lookup f19 = some ⟨oc19, od19, .func (PySem.W.fnOf "cut_links" "Mail.cut_links" (defArgs s_Mail_cut_links) (defBody s_Mail_cut_links) (defScope s_Mail_cut_links) .none kV19 dc19 pm19 an19 cd19 ct19), sl19⟩) (c19 : PySem.W.codeIn K cd19 "Mail.cut_links" = true) (k19 : PySem.W.keepIn K (.ref f19) = true)
    (a20 : PySem.W.findIn K (.ref CClient) "__init__" = some (some (.ref f20))) (i20 : PySem.W.isFn K (.ref f20) = true) (l20 : K.lookup f20 = some ⟨oc20, od20, .func (PySem.W.fnOf "__init__" "Client.__init__" (defArgs s_Client_init) (defBody s_Client_init) (defScope s_Client_init) .none kV20 dc20 pm20 an20 cd20 ct20), sl20⟩) (c20 : PySem.W.codeIn K cd20 "Client.__init__" = true) (k20 : PySem.W.keepIn K (.ref f20) = true)
    (a21 : PySem.W.findIn K (.ref CClient) "may_ask" = some (some (.ref f21))) (i21 : PySem.W.isFn K (.ref f21) = true) (l21 : K.lookup f21 = some ⟨oc21, od21, .func (PySem.W.fnOf "may_ask" "Client.may_ask" (defArgs s_Client_may_ask) (defBody s_Client_may_ask) (defScope s_Client_may_ask) .none kV21 dc21 pm21 an21 cd21 ct21), sl21⟩) (c21 : PySem.W.codeIn K cd21 "Client.may_ask" = true) (k21 : PySem.W.keepIn K (.ref f21) = true)
    (a22 : PySem.W.findIn K (.ref CClient) "saw" = some (some (.ref f22))) (i22 : PySem.W.isFn K (.ref f22) = true) (l22 : K.lookup f22 = some ⟨oc22, od22, .func (PySem.W.fnOf "saw" "Client.saw" (defArgs s_Client_saw) (defBody s_Client_saw) (defScope s_Client_saw) .none kV22 dc22 pm22 an22 cd22 ct22), sl22⟩) (c22 : PySem.W.codeIn K cd22 "Client.saw" = true) (k22 : PySem.W.keepIn K (.ref f22) = true)
    (z1 : PySem.W.nsIn K mainGlobals "all" = some none)
    (z2 : PySem.W.nsIn K mainGlobals "zip" = some none)
    (z3 : PySem.W.nsIn K mainGlobals "tuple" = some none)
    (z4 : PySem.W.nsIn K mainGlobals "max" = some none)
    (z5 : PySem.W.nsIn K mainGlobals "len" = some none)
    (z6 : PySem.W.nsIn K mainGlobals "int" = some none)
    (z7 : PySem.W.nsIn K mainGlobals "range" = some none)
    (z8 : PySem.W.nsIn K mainGlobals "isinstance" = some none)
    (z9 : PySem.W.nsIn K mainGlobals "bool" = some none)
    (z10 : PySem.W.nsIn K mainGlobals "sorted" = some none)
    {ca0 : Addr} {t0_0 t0_1 t0_2 t0_3 t0_4 t0_5 t0_6 t0_7} {cod0 csl0 cn0} (g0 : PySem.W.nsIn K mainGlobals "NO_VECTOR" = some (some (.ref ca0))) (h0 : K.lookup ca0 = some ⟨.type "tuple", cod0, .seq #[.int 0 t0_0, .int 0 t0_1, .int 0 t0_2, .int 0 t0_3, .int 0 t0_4, .int 0 t0_5, .int 0 t0_6, .int 0 t0_7] cn0, csl0⟩)
    {CN CL CB : Addr}
    (xgCN : PySem.W.nsIn K mainGlobals "NoMessage" = some (some (.ref CN))) (xeCN : PySem.W.excIn K CN [.type "ValueError", .type "Exception", .type "BaseException", .type "object"] "ValueError.__new__" = true) (xkCN : PySem.W.keepIn K (.ref CN) = true) (xbCN : PySem.W.subIn K (.ref CN) (.type "BaseException") = some true) (xtCN : PySem.W.typeIn K (.ref CN) = some (.type "type"))
    (e1CN : PySem.W.findIn K (.ref CN) "__getattribute__" = some (some (.builtin "BaseException.__getattribute__"))) (e2CN : PySem.W.findIn K (.ref CN) "__getattr__" = some none) (e4CN : PySem.W.hasDictIn K CN = true) (e5CN : PySem.W.findIn K (.ref CN) "__class__" = some (some (.builtin "object.__class__"))) (e6CN : PySem.W.specialIn K (.builtin "object.__class__") "__get__" = some (some (.builtin "getset_descriptor.__get__"))) (e7CN : PySem.W.takesIn K (.builtin "object.__class__") = some true) (e8CN : PySem.W.mroIn K CN (.type "object") = some true) (eSCN : PySem.W.subIn K (.ref CN) (.ref CN) = some true)
    (xgCL : PySem.W.nsIn K mainGlobals "LinkCut" = some (some (.ref CL))) (xeCL : PySem.W.excIn K CL [.type "ValueError", .type "Exception", .type "BaseException", .type "object"] "ValueError.__new__" = true) (xkCL : PySem.W.keepIn K (.ref CL) = true) (xbCL : PySem.W.subIn K (.ref CL) (.type "BaseException") = some true) (xtCL : PySem.W.typeIn K (.ref CL) = some (.type "type"))
    (e1CL : PySem.W.findIn K (.ref CL) "__getattribute__" = some (some (.builtin "BaseException.__getattribute__"))) (e2CL : PySem.W.findIn K (.ref CL) "__getattr__" = some none) (e4CL : PySem.W.hasDictIn K CL = true) (e5CL : PySem.W.findIn K (.ref CL) "__class__" = some (some (.builtin "object.__class__"))) (e6CL : PySem.W.specialIn K (.builtin "object.__class__") "__get__" = some (some (.builtin "getset_descriptor.__get__"))) (e7CL : PySem.W.takesIn K (.builtin "object.__class__") = some true) (e8CL : PySem.W.mroIn K CL (.type "object") = some true) (eSCL : PySem.W.subIn K (.ref CL) (.ref CL) = some true)
    (m1 : PySem.W.nsIn K mainGlobals "MeetError" = some (some (.ref CB))) (m2 : PySem.W.subIn K (.ref CB) (.type "BaseException") = some true) (m3 : PySem.W.hasDictIn K CB = true) (m4 : PySem.W.typeIn K (.ref CB) = some (.type "type")) (m5 : PySem.W.subIn K (.ref CN) (.ref CB) = some true) (m6 : PySem.W.subIn K (.ref CL) (.ref CB) = some true) (m7 : PySem.W.subIn K (.ref CN) (.ref CL) = some false) (m8 : PySem.W.subIn K (.ref CL) (.ref CN) = some false)
    : ∃ fd : FuncData, (∀ (s : Shared) (v : Value), BindsTo s fd ⟨[v], []⟩ [("script", v)]) ∧ ∀ base : Heap, K.In base → base.Ns mainGlobals mg → FnOk l.prog w K mg base CX0 4 fa fd ["script"] (spD K 1 pLaw) := by
  have e := hfa.symm.trans (PySem.W.mg_of X G a9)
  cases e
  have GG : Glb K mg := ⟨PySem.W.mg_none_of X G z1, PySem.W.mg_none_of X G z2, PySem.W.mg_none_of X G z3, PySem.W.mg_none_of X G z4, PySem.W.mg_none_of X G z5, PySem.W.mg_none_of X G z6, PySem.W.mg_none_of X G z7, PySem.W.mg_none_of X G z8, PySem.W.mg_none_of X G z9, PySem.W.mg_none_of X G z10, GC.ints (ns := [0, 0, 0, 0, 0, 0, 0, 0]) (PySem.W.mg_of X G g0) h0 (show 8 ≤ sizeLine by decide) (by exact .cons ⟨_, rfl⟩ (.cons ⟨_, rfl⟩ (.cons ⟨_, rfl⟩ (.cons ⟨_, rfl⟩ (.cons ⟨_, rfl⟩ (.cons ⟨_, rfl⟩ (.cons ⟨_, rfl⟩ (.cons ⟨_, rfl⟩ (.nil)))))))))⟩
  have F1 := fun_mk (st := s_covers) l1 c1 k1
  have b1 := F1.binds (ps := ["vector", "other"]) fun _ _ _ _ _ _ us hl => match us, hl with | [_, _], _ => rfl
  have F2 := fun_mk (st := s_joined) l2 c2 k2
  have b2 := F2.binds (ps := ["vector", "other"]) fun _ _ _ _ _ _ us hl => match us, hl with | [_, _], _ => rfl
  have F3 := fun_mk (st := s_law_number) l3 c3 k3
  have b3 := F3.binds (ps := ["script", "k"]) fun _ _ _ _ _ _ us hl => match us, hl with | [_, _], _ => rfl
  have F4 := fun_mk (st := s_law_take) l4 c4 k4
  have b4 := F4.binds (ps := ["box", "size"]) fun _ _ _ _ _ _ us hl => match us, hl with | [_, _], _ => rfl
  have F5 := fun_mk (st := s_law_vector) l5 c5 k5
  have b5 := F5.binds (ps := ["box"]) fun _ _ _ _ _ _ us hl => match us, hl with | [_], _ => rfl
  have F6 := fun_mk (st := s_law_client_holds) l6 c6 k6
  have b6 := F6.binds (ps := ["script"]) fun _ _ _ _ _ _ us hl => match us, hl with | [_], _ => rfl
  have F7 := fun_mk (st := s_law_asked) l7 c7 k7
  have b7 := F7.binds (ps := ["mail", "kind", "number"]) fun _ _ _ _ _ _ us hl => match us, hl with | [_, _, _], _ => rfl
  have F8 := fun_mk (st := s_law_due) l8 c8 k8
  have b8 := F8.binds (ps := ["model", "cuts", "count", "kind", "number"]) fun _ _ _ _ _ _ us hl => match us, hl with | [_, _, _, _, _], _ => rfl
  have F9 := fun_mk (st := s_law) l9 c9 k9
  have F10 := fun_mk (st := s_Mail_init) l10 c10 k10
  have b10 := F10.binds (ps := ["self"]) fun _ _ _ _ _ _ us hl => match us, hl with | [_], _ => rfl
  have F11 := fun_mk (st := s_Mail_put) l11 c11 k11
  have b11 := F11.binds (ps := ["self", "sender", "receiver", "body"]) fun _ _ _ _ _ _ us hl => match us, hl with | [_, _, _, _], _ => rfl
  have F12 := fun_mk (st := s_Mail_look) l12 c12 k12
  have b12 := F12.binds (ps := ["self", "number"]) fun _ _ _ _ _ _ us hl => match us, hl with | [_, _], _ => rfl
  have F13 := fun_mk (st := s_Mail_lose) l13 c13 k13
  have b13 := F13.binds (ps := ["self", "number"]) fun _ _ _ _ _ _ us hl => match us, hl with | [_, _], _ => rfl
  have F14 := fun_mk (st := s_Mail_double) l14 c14 k14
  have b14 := F14.binds (ps := ["self", "number"]) fun _ _ _ _ _ _ us hl => match us, hl with | [_, _], _ => rfl
  have F15 := fun_mk (st := s_Mail_check_link) l15 c15 k15
  have b15 := F15.binds (ps := ["self", "number"]) fun _ _ _ _ _ _ us hl => match us, hl with | [_, _], _ => rfl
  have F16 := fun_mk (st := s_Mail_cut) l16 c16 k16
  have b16 := F16.binds (ps := ["self", "sender", "receiver"]) fun _ _ _ _ _ _ us hl => match us, hl with | [_, _, _], _ => rfl
  have F17 := fun_mk (st := s_Mail_heal) l17 c17 k17
  have b17 := F17.binds (ps := ["self", "sender", "receiver"]) fun _ _ _ _ _ _ us hl => match us, hl with | [_, _, _], _ => rfl
  have F18 := fun_mk (st := s_Mail_numbers) l18 c18 k18
  have b18 := F18.binds (ps := ["self"]) fun _ _ _ _ _ _ us hl => match us, hl with | [_], _ => rfl
  have F19 := fun_mk (st := s_Mail_cut_links) l19 c19 k19
  have b19 := F19.binds (ps := ["self"]) fun _ _ _ _ _ _ us hl => match us, hl with | [_], _ => rfl
  have F20 := fun_mk (st := s_Client_init) l20 c20 k20
  have b20 := F20.binds (ps := ["self"]) fun _ _ _ _ _ _ us hl => match us, hl with | [_], _ => rfl
  have F21 := fun_mk (st := s_Client_may_ask) l21 c21 k21
  have b21 := F21.binds (ps := ["self", "vector"]) fun _ _ _ _ _ _ us hl => match us, hl with | [_, _], _ => rfl
  have F22 := fun_mk (st := s_Client_saw) l22 c22 k22
  have b22 := F22.binds (ps := ["self", "vector"]) fun _ _ _ _ _ _ us hl => match us, hl with | [_, _], _ => rfl
  refine ⟨PySem.W.fnOf "law" "law" (defArgs s_law) (defBody s_law) (defScope s_law) .none kV9 dc9 pm9 an9 cd9 ct9, fun s v => .of_eq rfl, fun base _ _ => ?_⟩
  have CCCMail : Cls K CMail := ⟨pgCMail, hdCMail, poCMail, saCMail⟩
  have BFCMail : MailF K CMail := ⟨CCCMail, n0CMail, n1CMail, n2CMail⟩
  have CCCClient : Cls K CClient := ⟨pgCClient, hdCClient, poCClient, saCClient⟩
  have BFCClient : ClF K CClient := ⟨CCCClient, n0CClient⟩
  have ECN : ExcN K mg "NoMessage" CN := ⟨⟨_, _, _, _, PySem.F.excBase_ValueError, xeCN⟩, PySem.W.mg_of X G xgCN, xkCN, xbCN, xtCN⟩
  have ECL : ExcN K mg "LinkCut" CL := ⟨⟨_, _, _, _, PySem.F.excBase_ValueError, xeCL⟩, PySem.W.mg_of X G xgCL, xkCL, xbCL, xtCL⟩
  have EC : Cls60 K mg CN CL := ⟨PySem.W.mg_of X G xgCN, PySem.W.mg_of X G xgCL, ⟨e1CN, e2CN, xbCN, e4CN, e5CN, e6CN, e7CN, e8CN⟩, ⟨e1CL, e2CL, xbCL, e4CL, e5CL, e6CL, e7CL, e8CL⟩, ⟨CB, PySem.W.mg_of X G m1, PySem.W.exm_ref m2 m3 m4 m5, PySem.W.exm_ref m2 m3 m4 m6⟩, kit_refF eSCN e4CL xtCL m7, kit_refF eSCL e4CN xtCN m8⟩
  have D1 : Def l.prog w K mg base 1 "covers" 2 p_covers := ⟨_, _, _, ok_covers F1 GG, PySem.W.mg_of X G a1, k1, b1⟩
  have D2 : Def l.prog w K mg base 1 "joined" 2 p_joined := ⟨_, _, _, ok_joined F2 GG, PySem.W.mg_of X G a2, k2, b2⟩
  have D3 : Def l.prog w K mg base 1 "_law_number" 2 pNumber := ⟨_, _, _, ok_law_number F3 GG, PySem.W.mg_of X G a3, k3, b3⟩
  have D4 : Def l.prog w K mg base 1 "_law_take" 2 pTake := ⟨_, _, _, ok_law_take F4 GG, PySem.W.mg_of X G a4, k4, b4⟩
  have D5 : Def l.prog w K mg base 2 "_law_vector" 1 p_lvec := ⟨_, _, _, ok_law_vector F5 GG D4, PySem.W.mg_of X G a5, k5, b5⟩
  have D8 : Def l.prog w K mg base 1 "_law_due" 5 p_ldue := ⟨_, _, _, ok_law_due F8 GG, PySem.W.mg_of X G a8, k8, b8⟩
  have D10 : MkD l.prog w K mg base 1 "Mail" CMail 0 ((p_minit l.prog w CMail)) := ⟨_, _, _, ⟨mkCMail, a10, i10, kcCMail⟩, ok_Mail_init F10 GG BFCMail, PySem.W.mg_of X G aCMail, b10⟩
  have D11 : OMet l.prog w K mg base 1 CMail "put" 3 ((p_mput l.prog w CMail)) := ⟨_, _, _, CCCMail, ⟨a11, i11, k11⟩, ok_Mail_put F11 GG BFCMail, b11⟩
  have D12 : OMetX l.prog w K mg base 1 CMail "look" 1 ((x_look l.prog w CMail CN)) := ⟨_, _, _, CCCMail, ⟨a12, i12, k12⟩, ok_Mail_look F12 GG BFCMail ECN, b12⟩
  have D13 : OMetX l.prog w K mg base 2 CMail "lose" 1 ((x_lose l.prog w CMail CN)) := ⟨_, _, _, CCCMail, ⟨a13, i13, k13⟩, ok_Mail_lose F13 GG BFCMail D12, b13⟩
  have D14 : OMetX l.prog w K mg base 2 CMail "double" 1 ((x_double l.prog w CMail CN)) := ⟨_, _, _, CCCMail, ⟨a14, i14, k14⟩, ok_Mail_double F14 GG BFCMail D12 D11, b14⟩
  have D15 : OMetX l.prog w K mg base 2 CMail "check_link" 1 ((x_check l.prog w CMail CN CL)) := ⟨_, _, _, CCCMail, ⟨a15, i15, k15⟩, ok_Mail_check_link F15 GG BFCMail ECL D12, b15⟩
  have D16 : OMet l.prog w K mg base 1 CMail "cut" 2 ((p_mcut l.prog w CMail)) := ⟨_, _, _, CCCMail, ⟨a16, i16, k16⟩, ok_Mail_cut F16 GG BFCMail, b16⟩
  have D17 : OMet l.prog w K mg base 1 CMail "heal" 2 ((p_mheal l.prog w CMail)) := ⟨_, _, _, CCCMail, ⟨a17, i17, k17⟩, ok_Mail_heal F17 GG BFCMail, b17⟩
  have D18 : OMet l.prog w K mg base 1 CMail "numbers" 0 ((p_mnums l.prog w CMail)) := ⟨_, _, _, CCCMail, ⟨a18, i18, k18⟩, ok_Mail_numbers F18 GG BFCMail, b18⟩
  have D19 : OMet l.prog w K mg base 1 CMail "cut_links" 0 ((p_mcuts l.prog w CMail)) := ⟨_, _, _, CCCMail, ⟨a19, i19, k19⟩, ok_Mail_cut_links F19 GG BFCMail, b19⟩
  have D20 : MkD l.prog w K mg base 1 "Client" CClient 0 ((p_cinit CClient)) := ⟨_, _, _, ⟨mkCClient, a20, i20, kcCClient⟩, ok_Client_init F20 GG BFCClient, PySem.W.mg_of X G aCClient, b20⟩
  have D21 : OMet l.prog w K mg base 2 CClient "may_ask" 1 ((p_mayask CClient)) := ⟨_, _, _, CCCClient, ⟨a21, i21, k21⟩, ok_Client_may_ask F21 GG BFCClient D1, b21⟩
  have D22 : OMet l.prog w K mg base 2 CClient "saw" 1 ((p_saw CClient)) := ⟨_, _, _, CCCClient, ⟨a22, i22, k22⟩, ok_Client_saw F22 GG BFCClient D2, b22⟩
  have D6 : Def l.prog w K mg base 3 "_law_client_holds" 1 p_lcl := ⟨_, _, _, ok_law_client_holds F6 GG BFCClient D3 D4 D5 D20 D21 D22, PySem.W.mg_of X G a6, k6, b6⟩
  have D7 : Def l.prog w K mg base 3 "_law_asked" 3 ((p_lasked l.prog w CMail)) := ⟨_, _, _, ok_law_asked F7 GG EC D12 D13 D14 D15, PySem.W.mg_of X G a7, k7, b7⟩
  exact ok_law F9 GG D3 D4 D5 D10 D11 D16 D17 D18 D19 D12 D8 D7 D6
end K60
open PySem PySem.W PyProof.Rows
set_option maxRecDepth 100000 in
set_option maxHeartbeats 0 in
theorem PySem.Challenge.cw_partmeet_k60_clients_and_mail_holds : PySem.Challenge.rw_partmeet_k60_clients_and_mail.Holds := by
  w_on; o_law; k_head; (case hw => w_witness2)
  k_fill
  refine L2.walk_of (l := PySem.Challenge.rw_partmeet_k60_clients_and_mail) (n := 63) (k := 4) (x := "script") (CX := fun _ => L2.CX0) (sp := fun w => DL.spD _ 1 DL.pLaw) rfl (by decide) rfl ⟨rfl, by decide, by decide⟩ (fun w h Y => PySem.W.kIn_of Y) ?F (fun _ _ a ns hl _ hS => DL.law_start hl hS) (fun _ _ _ _ _ h => h)
  case F =>
    intro w mg fa h KX G hmg
    refine' K60.all_mk KX G hmg ?yaCMail ?ypgCMail ?yhdCMail ?ypoCMail ?ysaCMail ?ymkCMail ?ykcCMail ?yn0CMail ?yn1CMail ?yn2CMail ?yaCClient ?ypgCClient ?yhdCClient ?ypoCClient ?ysaCClient ?ymkCClient ?ykcCClient ?yn0CClient ?ya1 ?yl1 ?yc1 ?yk1 ?ya2 ?yl2 ?yc2 ?yk2 ?ya3 ?yl3 ?yc3 ?yk3 ?ya4 ?yl4 ?yc4 ?yk4 ?ya5 ?yl5 ?yc5 ?yk5 ?ya6 ?yl6 ?yc6 ?yk6 ?ya7 ?yl7 ?yc7 ?yk7 ?ya8 ?yl8 ?yc8 ?yk8 ?ya9 ?yl9 ?yc9 ?yk9 ?ya10 ?yi10 ?yl10 ?yc10 ?yk10 ?ya11 ?yi11 ?yl11 ?yc11 ?yk11 ?ya12 ?yi12 ?yl12 ?yc12 ?yk12 ?ya13 ?yi13 ?yl13 ?yc13 ?yk13 ?ya14 ?yi14 ?yl14 ?yc14 ?yk14 ?ya15 ?yi15 ?yl15 ?yc15 ?yk15 ?ya16 ?yi16 ?yl16 ?yc16 ?yk16 ?ya17 ?yi17 ?yl17 ?yc17 ?yk17 ?ya18 ?yi18 ?yl18 ?yc18 ?yk18 ?ya19 ?yi19 ?yl19 ?yc19 ?yk19 ?ya20 ?yi20 ?yl20 ?yc20 ?yk20 ?ya21 ?yi21 ?yl21 ?yc21 ?yk21 ?ya22 ?yi22 ?yl22 ?yc22 ?yk22 ?yz1 ?yz2 ?yz3 ?yz4 ?yz5 ?yz6 ?yz7 ?yz8 ?yz9 ?yz10 ?yg0 ?yh0 ?yxgCN ?yxeCN ?yxkCN ?yxbCN ?yxtCN ?ye1CN ?ye2CN ?ye4CN ?ye5CN ?ye6CN ?ye7CN ?ye8CN ?yeSCN ?yxgCL ?yxeCL ?yxkCL ?yxbCL ?yxtCL ?ye1CL ?ye2CL ?ye4CL ?ye5CL ?ye6CL ?ye7CL ?ye8CL ?yeSCL ?ym1 ?ym2 ?ym3 ?ym4 ?ym5 ?ym6 ?ym7 ?ym8
    (case yaCMail => k_is)
    (case ypgCMail => k_is)
    (case yhdCMail => k_is)
    (case ypoCMail => k_is)
    (case ysaCMail => k_is)
    (case ymkCMail => k_is)
    (case ykcCMail => k_is)
    (case yn0CMail => k_is)
    (case yn1CMail => k_is)
    (case yn2CMail => k_is)
    (case yaCClient => k_is)
    (case ypgCClient => k_is)
    (case yhdCClient => k_is)
    (case ypoCClient => k_is)
    (case ysaCClient => k_is)
    (case ymkCClient => k_is)
    (case ykcCClient => k_is)
    (case yn0CClient => k_is)
    (case ya1 => k_is)
    (case yl1 => k_is)
    (case yc1 => k_is)
    (case yk1 => k_is)
    (case ya2 => k_is)
    (case yl2 => k_is)
    (case yc2 => k_is)
    (case yk2 => k_is)
    (case ya3 => k_is)
    (case yl3 => k_is)
    (case yc3 => k_is)
    (case yk3 => k_is)
    (case ya4 => k_is)
    (case yl4 => k_is)
    (case yc4 => k_is)
    (case yk4 => k_is)
    (case ya5 => k_is)
    (case yl5 => k_is)
    (case yc5 => k_is)
    (case yk5 => k_is)
    (case ya6 => k_is)
    (case yl6 => k_is)
    (case yc6 => k_is)
    (case yk6 => k_is)
    (case ya7 => k_is)
    (case yl7 => k_is)
    (case yc7 => k_is)
    (case yk7 => k_is)
    (case ya8 => k_is)
    (case yl8 => k_is)
    (case yc8 => k_is)
    (case yk8 => k_is)
    (case ya9 => k_is)
    (case yl9 => k_is)
    (case yc9 => k_is)
    (case yk9 => k_is)
    (case ya10 => k_is)
    (case yi10 => k_is)
    (case yl10 => k_is)
    (case yc10 => k_is)
    (case yk10 => k_is)
    (case ya11 => k_is)
    (case yi11 => k_is)
    (case yl11 => k_is)
    (case yc11 => k_is)
    (case yk11 => k_is)
    (case ya12 => k_is)
    (case yi12 => k_is)
    (case yl12 => k_is)
    (case yc12 => k_is)
    (case yk12 => k_is)
    (case ya13 => k_is)
    (case yi13 => k_is)
    (case yl13 => k_is)
    (case yc13 => k_is)
    (case yk13 => k_is)
    (case ya14 => k_is)
    (case yi14 => k_is)
    (case yl14 => k_is)
    (case yc14 => k_is)
    (case yk14 => k_is)
    (case ya15 => k_is)
    (case yi15 => k_is)
    (case yl15 => k_is)
    (case yc15 => k_is)
    (case yk15 => k_is)
    (case ya16 => k_is)
    (case yi16 => k_is)
    (case yl16 => k_is)
    (case yc16 => k_is)
    (case yk16 => k_is)
    (case ya17 => k_is)
    (case yi17 => k_is)
    (case yl17 => k_is)
    (case yc17 => k_is)
    (case yk17 => k_is)
    (case ya18 => k_is)
    (case yi18 => k_is)
    (case yl18 => k_is)
    (case yc18 => k_is)
    (case yk18 => k_is)
    (case ya19 => k_is)
    (case yi19 => k_is)
    (case yl19 => k_is)
    (case yc19 => k_is)
    (case yk19 => k_is)
    (case ya20 => k_is)
    (case yi20 => k_is)
    (case yl20 => k_is)
    (case yc20 => k_is)
    (case yk20 => k_is)
    (case ya21 => k_is)
    (case yi21 => k_is)
    (case yl21 => k_is)
    (case yc21 => k_is)
    (case yk21 => k_is)
    (case ya22 => k_is)
    (case yi22 => k_is)
    (case yl22 => k_is)
    (case yc22 => k_is)
    (case yk22 => k_is)
    (case yz1 => k_is)
    (case yz2 => k_is)
    (case yz3 => k_is)
    (case yz4 => k_is)
    (case yz5 => k_is)
    (case yz6 => k_is)
    (case yz7 => k_is)
    (case yz8 => k_is)
    (case yz9 => k_is)
    (case yz10 => k_is)
    (case yg0 => k_is)
    (case yh0 => k_is)
    (case yxgCN => k_is)
    (case yxeCN => k_exc)
    (case yxkCN => k_is)
    (case yxbCN => k_is)
    (case yxtCN => k_is)
    (case ye1CN => k_is)
    (case ye2CN => k_is)
    (case ye4CN => k_is)
    (case ye5CN => k_is)
    (case ye6CN => k_is)
    (case ye7CN => k_is)
    (case ye8CN => k_is)
    (case yeSCN => k_is)
    (case yxgCL => k_is)
    (case yxeCL => k_exc)
    (case yxkCL => k_is)
    (case yxbCL => k_is)
    (case yxtCL => k_is)
    (case ye1CL => k_is)
    (case ye2CL => k_is)
    (case ye4CL => k_is)
    (case ye5CL => k_is)
    (case ye6CL => k_is)
    (case ye7CL => k_is)
    (case ye8CL => k_is)
    (case yeSCL => k_is)
    (case ym1 => k_is)
    (case ym2 => k_is)
    (case ym3 => k_is)
    (case ym4 => k_is)
    (case ym5 => k_is)
    (case ym6 => k_is)
    (case ym7 => k_is)
    (case ym8 => k_is)
