import PyProof.Rows.All
import Wide.All
import OpenK.AllK
import Wide.FinOn
import HandS.ForMost
import HandS.OwnEq
import HandS.IsInst
import HandS.Codes
import HandS.Wide
import HandS.Replace
import HandS.NoneIn
import HandS.Flow
import HandS.Style
import KE.GoesZip
import KE.GoesMore
import KE.GoesEnum
import HandS.Walk
import KE.KDictZip
import HandS.DictComp
import HandS.Strs
import HandS.CallLocal
import HandS.NestedK
import HandS.StrMore
import HandS.FStr
import KE.KExcInit
import HandS.ExcInit
import HandS.ExcIs
import HandS.ExcField
import HandS.MakeKw
import PyProof.ExcBaseAll.LookupError
import HandS.RaiseMore
import HandS.TryMany
import HandS.CallSlots
import HandS.ExcValue
import HandS.DeepEq
import HandS.Conv
import KE.KExcLine
import PySem.Challenge.RW_allrows_k01_errors_and_what_they_keep
set_option Elab.async false
set_option linter.all false
set_option maxRecDepth 100000
namespace LX
open PySem PySem.Spec PyProof.Rows L2 C8 SX
section
variable {X : Cx}
theorem call_list_str (hc : X.calm = true) : CallR X (.type "list") (fun (xs : List V) (H : Hp) (Q : VK) => ∃ l : List Nat, xs = [V.str (S l)] ∧ l.length ≤ sizeLine ∧ ∀ p, H p = none → Q (.ref p) (upd H p (.lst (l.map fun c => V.str (S [c]))))) := by
  intro pins s σ H xs us Q I r h
  obtain ⟨l, rfl, hl, q⟩ := h
  obtain ⟨u, rfl, ru⟩ := vals1 r
  obtain ⟨t, rfl⟩ := ru
  refine PySem.call_list_str (I.ok.hd hc) (S l) t (fun h' tk acc' c' hk hS hacc => ?_) (by simpa [S] using hl)
  have hv : Vals (l.map fun c => V.str (S [c])) acc'.toList := by
    obtain ⟨hsz, hit⟩ := hacc
    have hsz' : acc'.toList.length = l.length := by simpa using hsz
    have gen : ∀ (m : List Nat) (as : List Value), as.length = m.length → (∀ (j : Nat) (v : Value), as[j]? = some v → ∃ (c : Nat) (u : Tok), m[j]? = some c ∧ v = Value.str ⟨#[c]⟩ u) → Vals (m.map fun c => V.str (S [c])) as := by
      intro m
      induction m with
      | nil => intro as ha _; cases as with
        | nil => exact .nil
        | cons a as => cases ha
      | cons c m ih => intro as ha hh; cases as with
        | nil => cases ha
        | cons a as =>
          obtain ⟨c', u, e1, e2⟩ := hh 0 a rfl
          have : c = c' := Option.some.inj e1
          subst this
          exact .cons ⟨u, e2⟩ (ih as (Nat.succ.inj ha) fun j v e => hh (j + 1) v e)
    refine gen l acc'.toList hsz' fun j v e => ?_
    obtain ⟨c, u, e1, e2⟩ := hit j v (by simpa using e)
    exact ⟨c, u, by simpa [S] using e1, e2⟩
  refine ⟨.ref _, _, I.laid (t' := tk) (o := .lst (l.map fun c => V.str (S [c]))) hk (Nat.le_refl _) ⟨by simpa using hl, acc'.toList, c', hv, by simpa using hS⟩, rfl, q _ (I.hok.fresh (Nat.le_refl _))⟩
theorem op_mul_si : OpR X (binaryOp .Mult) (fun x y H Q => ∃ (z : Str) (k : Int), x = .str z ∧ y = .int k ∧ (k = 0 ∨ k = 1) ∧ Q (.str (if k = 0 then S [] else z)) H) := by
  intro pins s σ H x y v u Q I rx ry h
  obtain ⟨z, k, rfl, rfl, hk, q⟩ := h
  obtain ⟨t, rfl⟩ := rx
  obtain ⟨t', rfl⟩ := ry
  rcases hk with rfl | rfl
  · exact PySem.P.mul_str_none (by decide) (by decide) ⟨.str (S []), H, I.tok _, ⟨_, rfl⟩, q⟩
  · refine PySem.P.mul_str (by decide) (fun _ h => by simp at h) (fun _ h => by simp at h) ?_
    rw [if_neg (by decide), if_pos (by simp)]
    exact ⟨.str z, H, I, ⟨t, rfl⟩, q⟩
def tRevS (te ts : TE) : TE := fun σ H Q => te σ H fun x H1 => ts σ H1 fun y H2 => ∃ i, y = .int i ∧ (some i = some (-1) ∧ ∃ l : List Nat, x = .str (S l) ∧ l.length ≤ sizeLine ∧ Q (.str (S l.reverse)) H2)
theorem rev_indices (z : Str) : (Builtin.Str.strSliceIndices none none (-1) z.length).filterMap (z.cps[·]?) = z.cps.toList.reverse := by
  have e : Builtin.Str.strSliceIndices none none (-1) z.length = (List.range z.length).reverse := by
    show sliceRange ((z.length : Int) - 1) (-1) (-1) = _
    rw [PySem.W.krv_sliceRange]
    exact PySem.W.krv_range _
  rw [e, List.filterMap_reverse]
  exact congrArg List.reverse (PySem.W.krv_all z.cps)
theorem pe_revS {e st : Expr} {te ts : TE} {p3 pos : Pos} (he : PE X e te) (hs : PE X st ts) : PE X (.Subscript e (.Slice none none (some st) p3) pos) (tRevS te ts) := by
  refine ⟨fun pins s σ H Q I h => ?_⟩
  refine Subscript_ (thn (he.run pins s σ H _ I h) fun v s1 ⟨x, H1, I1, r1, q1⟩ => ?_)
  have hst : PO X (some st) (tPart ts) := po_some hs
  refine wpAny_Slice (thn (po_none.run pins s1 σ H1 (fun o H2 => o = none ∧ H2 = H1) I1 ⟨rfl, rfl⟩) fun vl s2 ⟨l, H2, I2, pl, el, e2⟩ => ?_)
  subst el e2
  refine thn (po_none.run pins s2 σ H2 (fun o H3 => o = none ∧ H3 = H2) I2 ⟨rfl, rfl⟩) fun vu s3 ⟨u, H3, I3, pu, eu, e3⟩ => ?_
  subst eu e3
  refine thn (hst.run pins s3 σ H3 (fun o H4 => o = some (-1) ∧ ∃ l : List Nat, x = .str (S l) ∧ l.length ≤ sizeLine ∧ Q (.str (S l.reverse)) H4) I3 q1) fun vs s4 ⟨o, H4, I4, ps, eo, l, ex, hl, q⟩ => ?_
  subst eo ex
  obtain ⟨t, rfl⟩ := r1
  have I5 : Inv X pins σ H4 { s4 with heap := s4.heap.push { cls := .type "slice", data := .fields #[vl, vu, vs] } } := I4.kept (t' := s4.toks) fun b ob q => Heap.get?_push_of_some _ q
  show wpAny (model X.prog X.w) X.A (subscriptTail e (.Slice none none (some st) p3) (.str (S l) t) (.ref s4.heap.objs.size)) (EP X pins σ Q) X.xe { s4 with heap := s4.heap.push { cls := .type "slice", data := .fields #[vl, vu, vs] } }
  obtain ⟨l', el, el2⟩ := IsPart.raw pl
  obtain ⟨u', eu, eu2⟩ := IsPart.raw pu
  obtain ⟨s', es, es2⟩ := IsPart.raw ps
  refine tail_any (ops := [.ref s4.heap.objs.size, .str (S l) t]) (typeIs_str _ _ _) F.slot_str_getitem.lookup ?_ (by with_unfolding_all rfl)
  refine wpAny_getItem_str_slice (l := l') (u := u') (st := s') ?_ (by rw [es2]; rfl) ?_
  · rw [el, eu, es]
    exact Heap.IsSliceOf.new ..
  · unfold sliceMade slicePicked
    rw [el2, eu2, es2]
    show Made.post (if ((-1 : Int) == 1 && (Builtin.Str.strSliceIndices none none (-1) (S l).length).length == (S l).length) = true then Made.val (.str (S l) t)
      else Made.str ⟨((Builtin.Str.strSliceIndices none none (-1) (S l).length).filterMap ((S l).cps[·]?)).toArray⟩) (EP X pins σ Q) _
    rw [if_neg (by simp), rev_indices]
    exact ⟨by simpa [Str.length] using hl, .str _, H4, I5.tok _, ⟨_, rfl⟩, q⟩
end
end LX
namespace LX
open PySem PySem.Spec PyProof.Rows L2 C8 SX
inductive Sr where
  | txt (x : Str) | lst (a : Addr) | tup (a : Addr)
def Sr.fp : Sr → List Addr
  | .txt _ => [] | .lst a => [a] | .tup a => [a]
def Sr.has (K : PySem.W.Frag) : Sr → Nat → Hp → Prop
  | .txt x, i, _ => i < x.cps.size
  | .lst a, i, H => ∃ xs, SqL K H a xs ∧ i < xs.length
  | .tup a, i, H => ∃ xs, SqT K H a xs ∧ i < xs.length
def Sr.val (K : PySem.W.Frag) : Sr → Nat → Hp → V → Prop
  | .txt x, i, _, v => ∃ c, x.cps[i]? = some c ∧ v = .str ⟨#[c]⟩
  | .lst a, i, H, v => ∀ xs, SqL K H a xs → xs[i]? = some v
  | .tup a, i, H, v => ∀ xs, SqT K H a xs → xs[i]? = some v
def Sr.upto (K : PySem.W.Frag) : Sr → Nat → Hp → Prop
  | .txt x, i, _ => i ≤ x.cps.size
  | .lst a, i, H => ∃ xs, SqL K H a xs ∧ i ≤ xs.length
  | .tup a, i, H => ∃ xs, SqT K H a xs ∧ i ≤ xs.length
def Sr.ends (K : PySem.W.Frag) : Sr → Nat → Hp → Prop
  | .txt x, i, _ => i = x.cps.size
  | .lst a, i, H => ∃ xs, SqL K H a xs ∧ i = xs.length
  | .tup a, i, H => ∃ xs, SqT K H a xs ∧ i = xs.length
def Sr.tn : Sr → Addr → Nat → Heap → Prop
  | .txt x, it, i, h => ∃ t, h.IsStrIter it (strIterType x) x t i
  | .lst a, it, i, h => h.IsListIter it a i
  | .tup a, it, i, h => h.IsTupleIter it a i
theorem Sr.tn_obj : ∀ {S : Sr} {it : Addr} {i : Nat} {h : Heap}, S.tn it i h → ∃ o, h.get? it = some o ∧ ∀ v, o.data ≠ .cell v
  | .txt _, _, _, _, ⟨_, o, e, _, d⟩ => ⟨o, e, fun v q => by rw [d] at q; cases q⟩
  | .lst _, _, _, _, h => let ⟨o, e, _, d⟩ := h; ⟨o, e, fun v q => by rw [d] at q; cases q⟩
  | .tup _, _, _, _, ⟨o, e, _, d⟩ => ⟨o, e, fun v q => by rw [d] at q; cases q⟩
theorem Sr.tn_keep : ∀ {S : Sr} {it : Addr} {i : Nat} {h h' : Heap}, S.tn it i h → (∀ o, h.get? it = some o → h'.get? it = some o) → S.tn it i h'
  | .txt _, _, _, _, _, ⟨t, o, e, r⟩, k => ⟨t, o, k o e, r⟩
  | .lst _, _, _, _, _, h, k => h.at k
  | .tup _, _, _, _, _, h, k => h.at k
section
variable {X : Cx} {pins : List (Addr × Obj)} {σ : L2.St} {H : Hp} {s : Shared}
structure DrawsAt (X : Cx) (S : Sr) (H : Hp) (s : Shared) (it : Addr) (i : Nat) (n : Nat) : Prop where
  ex : ∃ (Pp : Nat → Value → Prop) (St : Nat → Heap → Prop), (∀ A : Around, A.handled = none → Draws X.prog X.w A it (it :: S.fp) n Pp St) ∧ St i s.heap ∧
    (∀ u, Pp i u → ∃ v, S.val X.K i H v ∧ RelV v u) ∧ ∀ j h', St j h' → S.tn it j h'
theorem Sr.draws (S : Sr) {it : Addr} {i : Nat} (I : Inv X pins σ H s) (hit : ∀ a ∈ S.fp, a ≠ it) (st : S.tn it i s.heap) (hu : S.upto X.K i H) : ∃ n, DrawsAt X S H s it i n ∧ i ≤ n ∧ (S.has X.K i H → i < n) ∧ (S.ends X.K i H → i = n) := by
  cases S with
  | txt x =>
    obtain ⟨t, st⟩ := st
    refine ⟨x.cps.size, ⟨_, _, fun A hh => Draws.text hh it x t, st, fun u ⟨c, u', e, eu⟩ => ?_, fun j h' q => ⟨t, q⟩⟩, hu, fun h => h, fun h => h⟩
    exact ⟨.str ⟨#[c]⟩, ⟨c, e, rfl⟩, ⟨u', eu⟩⟩
  | lst a =>
    obtain ⟨xs, hx, hu⟩ := hu
    obtain ⟨its, rv, p, _⟩ := I.list hx
    have hl := rv.length
    refine ⟨its.toArray.size, ⟨_, _, fun A hh => Draws.list hh it a (hit a (List.mem_singleton.mpr rfl)) its.toArray, ⟨st, p.isList⟩, fun u hq => ?_, fun j h' q => q.1⟩, by simp; omega, fun ⟨ys, hy, h⟩ => ?_, fun ⟨ys, hy, h⟩ => ?_⟩
    · have hq' : its[i]? = some u := by simpa using hq
      have hlt : i < xs.length := by rw [hl]; exact (List.getElem?_eq_some_iff.mp hq').1
      obtain ⟨u', e, r⟩ := rv.get (List.getElem?_eq_getElem hlt)
      rw [hq'] at e
      rw [Option.some.inj e]
      exact ⟨xs[i], fun zs hz => by rw [I.list_inj hz hx]; exact List.getElem?_eq_getElem hlt, r⟩
    · rw [I.list_inj hy hx] at h; simp; omega
    · rw [I.list_inj hy hx] at h; simp; omega
  | tup a =>
    obtain ⟨xs, hx, hu⟩ := hu
    obtain ⟨its, rv, p, _⟩ := I.tuple hx
    have hl := rv.length
    refine ⟨its.toArray.size, ⟨_, _, fun A hh => Draws.tuple hh it a (hit a (List.mem_singleton.mpr rfl)) its.toArray, ⟨st, p⟩, fun u hq => ?_, fun j h' q => q.1⟩, by simp; omega, fun ⟨ys, hy, h⟩ => ?_, fun ⟨ys, hy, h⟩ => ?_⟩
    · have hq' : its[i]? = some u := by simpa using hq
      have hlt : i < xs.length := by rw [hl]; exact (List.getElem?_eq_some_iff.mp hq').1
      obtain ⟨u', e, r⟩ := rv.get (List.getElem?_eq_getElem hlt)
      rw [hq'] at e
      rw [Option.some.inj e]
      exact ⟨xs[i], fun zs hz => by rw [I.tuple_inj hz hx]; exact List.getElem?_eq_getElem hlt, r⟩
    · rw [I.tuple_inj hy hx] at h; simp; omega
    · rw [I.tuple_inj hy hx] at h; simp; omega
end
def ItzX (K : PySem.W.Frag) (S1 S2 : Sr) : It :=
  ⟨fun i H => S1.has K i H ∧ S2.has K i H,
    fun i H v H' => ∃ T x y, v = .ref T ∧ H T = none ∧ H' = upd H T (.tup [x, y]) ∧ S1.val K i H x ∧ S2.val K i H y,
    fun i H => S1.upto K i H ∧ S2.upto K i H ∧ (S1.ends K i H ∨ S2.ends K i H)⟩
theorem Sr.has_upto {K : PySem.W.Frag} : ∀ {S : Sr} {i : Nat} {H : Hp}, S.has K i H → S.upto K i H
  | .txt _, _, _, h => Nat.le_of_lt h
  | .lst _, _, _, ⟨xs, hx, h⟩ => ⟨xs, hx, Nat.le_of_lt h⟩
  | .tup _, _, _, ⟨xs, hx, h⟩ => ⟨xs, hx, Nat.le_of_lt h⟩
theorem turn_zipX {P : Program} {w : World} {K : PySem.W.Frag} {elts : List Expr} {kk : Nat} {tpos : Pos} {z TI TO i1 i2 : Addr} (S1 S2 : Sr) (D : ZipSep2 z TI TO i1 i2 (i1 :: S1.fp) (i2 :: S2.fp)) (n1 : ∀ a ∈ S1.fp, a ≠ i1) (n2 : ∀ a ∈ S2.fp, a ≠ i2) :
    Turn P w K (.Tuple elts kk tpos) (ItzX K S1 S2) [z, TI, TO, i1, i2] z (fun i h => IsZip h z TI TO .none ∧ IsTupOf2 h TI (.ref i1) (.ref i2) ∧ (∃ x y, IsTupOf2 h TO x y) ∧ S1.tn i1 i h ∧ S2.tn i2 i h) where
  mem := by simp
  obj := fun i h st c hc => by
    obtain ⟨hz, hTI, ⟨x, y, hTO⟩, h1, h2⟩ := st
    have e' : c = z ∨ c = TI ∨ c = TO ∨ c = i1 ∨ c = i2 := by simpa using hc
    rcases e' with q | q | q | q | q
    · rw [q]; exact ⟨_, hz, fun v q => nomatch q⟩
    · rw [q]; exact ⟨_, hTI, fun v q => nomatch q⟩
    · rw [q]; exact ⟨_, hTO, fun v q => nomatch q⟩
    · rw [q]; exact Sr.tn_obj h1
    · rw [q]; exact Sr.tn_obj h2
  keep := fun i h h' st k => by
    obtain ⟨hz, hTI, ⟨x, y, hTO⟩, h1, h2⟩ := st
    exact ⟨k z (by simp) _ hz, k TI (by simp) _ hTI, ⟨x, y, k TO (by simp) _ hTO⟩, Sr.tn_keep h1 fun o q => k i1 (by simp) o q, Sr.tn_keep h2 fun o q => k i2 (by simp) o q⟩
  item := by
    intro X hP hw hK hc i pins s σ H E I hf st hg
    subst hP hw hK
    obtain ⟨hz, hTI, ⟨x0, y0, hTO⟩, h1, h2⟩ := st
    obtain ⟨g1, g2⟩ := hg
    obtain ⟨m1, ⟨P1, St1, D1, st1, v1, t1⟩, _, lt1, _⟩ := S1.draws I n1 h1 (Sr.has_upto g1)
    obtain ⟨m2, ⟨P2, St2, D2, st2, v2, t2⟩, _, lt2, _⟩ := S2.draws I n2 h2 (Sr.has_upto g2)
    have hzl : z < s.heap.objs.size := Heap.lt_size hz
    refine wpAny_pyNext_zipD2_item D (D1 _ (I.ok.hd hc)) (D2 _ (I.ok.hd hc)) hz hTI hTO st1 st2 (lt1 g1) (lt2 g2) fun u1 u2 h' tk p1 p2 z' TO' st1' st2' hT hsz hk => ?_
    obtain ⟨x, hx, rx⟩ := v1 u1 p1
    obtain ⟨y, hy, ry⟩ := v2 u2 p2
    refine ⟨_, rfl, wpAny_letOwnedTupleGo_zip (s := { s with heap := h', toks := tk }) z' fun h'' z'' sb => ?_⟩
    have hT2 : h''.get? s.heap.objs.size = some { cls := .type "tuple", data := .seq #[u1, u2] } := (sb.2 _ (Nat.ne_of_gt hzl)).trans hT
    have new : ObjOk X.prog X.w (upd H s.heap.objs.size (.tup [x, y])) h'' s.heap.objs.size (.tup [x, y]) :=
      ⟨by show 2 ≤ sizeLine; decide, [u1, u2], .cons rx (.cons ry .nil), ⟨_, hT2, rfl, _, rfl⟩⟩
    have I1 : Inv X pins σ (upd H s.heap.objs.size (.tup [x, y])) { s with heap := h'', toks := tk } :=
      I.turnedNew (t' := tk) (ch := [z, TI, TO, i1, i2]) (fun c o hb q => (sb.2 c (fun q' => hb (by simp [q']))).trans (hk c o (fun q' => hb (by simp [q'])) (fun q' => hb (by simp [q'])) (fun q' => hb (by simp [q'])) (fun q' => hb (by simp [q'])) q)) hf (Nat.le_refl _) new
    refine ⟨.ref s.heap.objs.size, _, I1, rfl, ⟨_, x, y, rfl, I.hok.fresh (Nat.le_refl _), rfl, hx, hy⟩, ⟨z'', ?_, ⟨u1, u2, ?_⟩, ?_, ?_⟩, fun c hcm => ?_⟩
    · exact (sb.2 _ D.TIz).trans (hk _ _ D.TIz D.TITO D.TIi1 D.TIi2 hTI)
    · exact (sb.2 _ D.TOz).trans TO'
    · exact Sr.tn_keep (t1 _ _ st1') fun o q => (sb.2 _ D.zi1.symm).trans q
    · exact Sr.tn_keep (t2 _ _ st2') fun o q => (sb.2 _ D.zi2.symm).trans q
    · have hlt : c < s.heap.objs.size := by
        have e' : c = z ∨ c = TI ∨ c = TO ∨ c = i1 ∨ c = i2 := by simpa using hcm
        rcases e' with q | q | q | q | q
        · rw [q]; exact hzl
        · rw [q]; exact Heap.lt_size hTI
        · rw [q]; exact Heap.lt_size hTO
        · rw [q]; obtain ⟨_, e1, _⟩ := Sr.tn_obj h1; exact Heap.lt_size e1
        · rw [q]; obtain ⟨_, e2, _⟩ := Sr.tn_obj h2; exact Heap.lt_size e2
      rw [upd_ne (Nat.ne_of_lt hlt)]
      exact (hf c hcm).1
  done := by
    intro X hP hw hK hc i pins s σ H E I hf st hg
    subst hP hw hK
    obtain ⟨hz, hTI, ⟨x0, y0, hTO⟩, h1, h2⟩ := st
    obtain ⟨g1, g2, ge⟩ := hg
    obtain ⟨m1, ⟨P1, St1, D1, st1, v1, t1⟩, le1, _, eq1⟩ := S1.draws I n1 h1 g1
    obtain ⟨m2, ⟨P2, St2, D2, st2, v2, t2⟩, le2, _, eq2⟩ := S2.draws I n2 h2 g2
    exact wpAny_pyNext_zipD2_end D (D1 _ (I.ok.hd hc)) (D2 _ (I.ok.hd hc)) hz hTI hTO st1 st2 le1 le2 (ge.elim (fun q => .inl (eq1 q)) fun q => .inr (eq2 q)) fun h' tk hk => ⟨rfl, I.turnedL (t' := tk) (ch := [z, TI, TO, i1, i2]) (fun c o hb q =>
      hk c o (fun q' => hb (by simp [q'])) (fun q' => hb (by simp [q'])) (fun q' => hb (by simp [q'])) (fun q' => hb (by simp [q'])) q) hf⟩
  self := fun A i s Q E st h => wpAny_pyIter_zip st.1 h
def Sr.of : V → Sr → Prop
  | .str x, .txt y => x = y
  | .ref a, .lst b => a = b
  | .ref a, .tup b => a = b
  | _, _ => False
def Sr.there (K : PySem.W.Frag) (H : Hp) : Sr → Prop
  | .txt _ => True
  | .lst a => ∃ xs, SqL K H a xs
  | .tup a => ∃ xs, SqT K H a xs
theorem Sr.begins {X : Cx} {pins : List (Addr × Obj)} {σ : L2.St} {H : Hp} {s : Shared} (I : Inv X pins σ H s) {v : V} {u : Value} (r : RelV v u) : ∀ {S : Sr}, S.of v → S.there X.K H → ∃ (o : Obj) (HH : Heap → Prop), Begins u o HH ∧ HH s.heap ∧ (∀ a ∈ S.fp, a < s.heap.objs.size) ∧ ∀ (h : Heap) (it : Addr), h.get? it = some o → S.tn it 0 h
  | .txt y, e, _ => by
    cases v with
    | str x =>
      have e' : x = y := e
      subst e'
      obtain ⟨t, rfl⟩ := r
      exact ⟨_, _, begins_text x t, trivial, (fun _ h => nomatch h), fun h it q => ⟨t, _, q, rfl, rfl⟩⟩
    | _ => exact e.elim
  | .lst b, e, ⟨xs, hx⟩ => by
    cases v with
    | ref a =>
      have e' : a = b := e
      subst e'
      cases r
      obtain ⟨its, rv, p, _⟩ := I.list hx
      refine ⟨_, _, begins_list a its.toArray, p.isList, fun c h => ?_, fun h it q => ⟨_, q, rfl, rfl⟩⟩
      rw [List.mem_singleton.mp h]; exact p.lt
    | _ => exact e.elim
  | .tup b, e, ⟨xs, hx⟩ => by
    cases v with
    | ref a =>
      have e' : a = b := e
      subst e'
      cases r
      obtain ⟨its, rv, p, _⟩ := I.tuple hx
      refine ⟨_, _, begins_tuple a its.toArray, p, fun c h => ?_, fun h it q => ⟨_, q, rfl, rfl⟩⟩
      rw [List.mem_singleton.mp h]; exact p.lt
    | _ => exact e.elim
def iZipX (K : PySem.W.Frag) (ta : TA) : TI := fun σ H R => ta σ H fun vs H1 => ∃ (x y : V) (S1 S2 : Sr), vs = [x, y] ∧ S1.of x ∧ S2.of y ∧ S1.there K H1 ∧ S2.there K H1 ∧ R (ItzX K S1 S2) H1
theorem pi_zipX {X : Cx} {e e2 : Expr} {ta : TA} {p pos tpos : Pos} {elts : List Expr} {kk : Nat} (hg : Gl X "zip") (hm : X.mg "zip" = none) (ha : PA X [e, e2] ta)
    (hs : starEach [e, e2] X.env = (false, eval e X.env) :: starEach [e2] X.env := by rfl) (hpl : (backTo pos (starEach [e2] X.env)).any (·.1) = false := by rfl) :
    PI X (.Tuple elts kk tpos) (.Call (.Name "zip" p) [e, e2] [] pos) (iZipX X.K ta) := by
  refine ⟨fun pins s σ H R I h => ?_⟩
  refine Call_ (ld_blt I hg hm PyProof.Rows.boot_zip (PyProof.Rows.callWith_type1 (thn (ha.run pos pins s σ H _ I h) fun us s1 ⟨vs, H1, I1, r1, q1⟩ => ?_) hs hpl))
  obtain ⟨x, y, S1, S2, ex, e1, e2, th1, th2, q⟩ := q1
  subst ex
  obtain ⟨u, u', rfl, r, r'⟩ := vals2 r1
  obtain ⟨o1, HH1, B1, b1, f1, t1⟩ := Sr.begins I1 r e1 th1
  obtain ⟨o2, HH2, B2, b2, f2, t2⟩ := Sr.begins I1 r' e2 th2
  have fresh5 : ∀ c, c ∈ [s1.heap.objs.size + 4, s1.heap.objs.size + 2, s1.heap.objs.size + 3, s1.heap.objs.size, s1.heap.objs.size + 1] → FpOk X pins H1 c := fun c hcm => by
    have e' : c = s1.heap.objs.size + 4 ∨ c = s1.heap.objs.size + 2 ∨ c = s1.heap.objs.size + 3 ∨ c = s1.heap.objs.size ∨ c = s1.heap.objs.size + 1 := by simpa using hcm
    have hle : s1.heap.objs.size ≤ c := by
      rcases e' with z | z | z | z | z
      · rw [z]; exact Nat.le_add_right _ _
      · rw [z]; exact Nat.le_add_right _ _
      · rw [z]; exact Nat.le_add_right _ _
      · rw [z]; exact Nat.le_refl _
      · rw [z]; exact Nat.le_add_right _ _
    exact I1.fpOk hle (I1.hok.fresh hle)
  refine zip_begins2 B1 B2 b1 b2 fun h' hz hTI hTO h1 h2 hsz hk => wpAny_pyIter_zip hz ?_
  have I2 : Inv X pins σ H1 { s1 with heap := h' } := I1.kept (t' := s1.toks) hk
  exact ⟨s1.heap.objs.size + 4, [s1.heap.objs.size + 4, s1.heap.objs.size + 2, s1.heap.objs.size + 3, s1.heap.objs.size, s1.heap.objs.size + 1], _, _, H1, rfl, I2,
    turn_zipX S1 S2 (PySem.zip_sep2 f1 f2) (fun a ha => Nat.ne_of_lt (f1 a ha)) (fun a ha => Nat.ne_of_lt (Nat.lt_succ_of_lt (f2 a ha))), ⟨hz, hTI, ⟨_, _, hTO⟩, t1 _ _ h1, t2 _ _ h2⟩, fresh5, q⟩
end LX
namespace LX
open PySem PySem.Spec PyProof.Rows L2 C8 SX
section
variable {prog : Program} {w : World} {A : Around} {E : Value → Shared → Prop} {s : Shared} {K : PySem.W.Frag} {x y C L f : Addr} {h₀ : Heap} {m : Str → Option Value} {ox : Obj} {od : Option Obj}
theorem objNe_own (X : K.In s.heap) (I : PySem.W.InstAt s.heap x ox C od) (hs : PySem.W.findIn K (.ref C) "__eq__" = some (some (.ref f))) (hf : PySem.W.isFn K (.ref f) = true) (hu : A.units < cLine) {Q : Fin → Shared → Prop}
    (hcall : wpAny (model prog w) A (call (.ref f) [.ref x, .ref y]) (fun v s' => ∃ b, v = .bool b ∧ Q (.done (.ret (.bool (!b)))) s') E s) :
    wpAny (model prog w) A (Builtin.«object.__ne__» ⟨[.ref x, .ref y], []⟩) Q E s := by
  unfold Builtin.«object.__ne__»
  repeat (first
    | with_reducible refine wpAny_cRoomFor hu ?_
    | (refine wpAny_bind (m := callSpecialIfBound? (.ref x) (Str.ofString "__eq__") [.ref y])
        (PySem.W.ifBound_K X I hs hf (wpAny_mono hcall (fun r s' hr => by
          obtain ⟨b, rfl, hq⟩ := hr
          repeat (first | exact hq | exact wpAny_pure hq | exact wpAny_truthy_bool hq | (refine wpAny_bind (m := truthy (.bool _)) (wpAny_truthy_bool ?_)) | wp_step)) fun _ _ e => e)))
    | wp_step)
theorem ifBound_ne {M : Model} {args : List Value} {Q : Option Value → Shared → Prop} (X : K.In s.heap) (I : PySem.W.InstAt s.heap x ox C od) (hs : PySem.W.findIn K (.ref C) "__ne__" = some (some (.builtin "object.__ne__")))
    (h : wpAny M A (call (.builtin "object.__ne__") (.ref x :: args)) (fun v => Q (some v)) E s) : wpAny M A (callSpecialIfBound? (.ref x) "__ne__" args) Q E s := by
  simp only [callSpecialIfBound?, bindSpecialIfBound?]
  refine wpAny_holding (wpAny_bind (wpAny_bind (wpAny_bind (I.type.here ((PySem.W.looks_findIn X hs).here ?_)))))
  simp only [F.cmp_object.ne.bind]
  refine wpAny_bind (wpAny_askSetting (wpAny_ite ?_))
  have fin : wpAny M A (call (.builtin "object.__ne__") ([.ref x] ++ args) >>= fun v => pure (some v)) Q E s := wpAny_bind (wpAny_mono h (fun v s' h' => wpAny_pure h') fun _ _ h' => h')
  split
  · exact wpAny_bind (wpAny_pure (wpAny_pure fin))
  · exact wpAny_tryCatch (wpAny_bind (wpAny_pure (wpAny_pure fin)))
theorem check_ne {M : Model} {Q : Unit → Shared → Prop} (X : K.In s.heap) (I : PySem.W.InstAt s.heap x ox C od) (hm : PySem.W.mroIn K C (.type "object") = some true) (hq : Q () s) :
    wpAny M A (checkBuiltinCall "object.__ne__" ⟨[.ref x, .ref y], []⟩) Q E s := by
  have L0 := I.type (M := M)
  have L1 := PySem.W.looks_mroIn (M := M) X hm
  simp only [checkBuiltinCall, F.cmpKind_ne, F.cmpSplit_ne]
  have ha := F.cmpArgs_ne (.ref x) (.ref y)
  refine wpAny_bind ?_
  unfold isInstance
  repeat lk
  exact hq
theorem rcNe_own (hu : A.units + 1 < cLine) (FF : Fr h₀ L s.heap m) (X₀ : K.In h₀) (I : PySem.W.InstAt s.heap x ox C od) (hb : PySem.W.Looks (model prog w) s.heap (typeOf (.ref y)) (.ref C))
    (hs : PySem.W.findIn K (.ref C) "__eq__" = some (some (.ref f))) (hf : PySem.W.isFn K (.ref f) = true) (hn : PySem.W.findIn K (.ref C) "__ne__" = some (some (.builtin "object.__ne__"))) (hm : PySem.W.mroIn K C (.type "object") = some true)
    {Q : Value → Shared → Prop} (hcall : wpAny (model prog w) A.in1 (call (.ref f) [.ref x, .ref y]) (fun v s' => ∃ b, v = .bool b ∧ Q (.bool (!b)) s') E s) :
    wpAny (model prog w) A (richCompare .NotEq (.ref x) (.ref y)) Q E s := by
  have X := X₀.keeps FF.keep
  have one : wpAny (model prog w) A (tryCompare (.ref x) (cmpInfo .NotEq).2.1 (.ref y)) (fun r s' => ∃ v, r = some v ∧ Q v s') E s := by
    show wpAny (model prog w) A (tryCompare (.ref x) "__ne__" (.ref y)) (fun r s' => ∃ v, r = some v ∧ Q v s') E s
    unfold tryCompare
    refine wpAny_bind (ifBound_ne X I hn (wpAny_call (codeAny_call_builtin F.cmp_object.ne.plain F.cmpEntry_ne (check_ne X I hm (objNe_own (A := A.in1) X I hs hf (by show A.units + 1 < cLine; exact hu) (wpAny_mono hcall (fun v s' hv => ?_) fun _ _ e => e))))))
    obtain ⟨b, rfl, hq⟩ := hv
    first | exact ⟨b, rfl, wpAny_pure ⟨_, rfl, hq⟩⟩ | exact ⟨b, rfl, wpAny_pure (wpAny_pure ⟨_, rfl, hq⟩)⟩ | exact ⟨b, rfl, ⟨_, rfl, hq⟩⟩
  unfold richCompare
  simp only [oneThing_ref]
  refine wpAny_holding (wpAny_bind (wpAny_cRoomFor (by omega) ?_))
  refine wpAny_bind (I.type.here (wpAny_bind (hb.here ?_)))
  rw [show (Value.ref C != Value.ref C) = false from by simp]
  simp only [Bool.false_eq_true, if_false]
  refine wpAny_bind (wpAny_pure ?_)
  simp only [Bool.false_eq_true, if_false]
  refine wpAny_bind (wpAny_mono one (fun r s' z => ?_) fun _ _ e => e)
  obtain ⟨v, rfl, hq⟩ := z
  first | exact wpAny_pure hq | exact hq
end
section
variable {X : Cx} {k j : Nat} {C : Addr} {sp : Sp}
theorem met_run {mth : Str} {pins : List (Addr × Obj)} {σ : L2.St} {H : Hp} {s : Shared} {A : Around} {a b : Addr} {Q : Value → Shared → Prop} (c : Met X.prog X.w X.K X.mg X.base k C mth sp []) (hr : Room k A) (hfr : A.frames = X.A.frames) (I : Inv X pins σ H s)
    {R : VK} (hsp : sp [.ref a, .ref b] H R C8.E0) (hQ : ∀ v z H' s', Inv X pins σ H' s' → RelV z v → R z H' → Q v s') :
    ∃ f, PySem.W.findIn X.K (.ref C) mth = some (some (.ref f)) ∧ PySem.W.isFn X.K (.ref f) = true ∧ wpAny (model X.prog X.w) A (call (.ref f) [.ref a, .ref b]) Q X.xe s := by
  obtain ⟨f, fd, ps, ds, hc, hm, F, hb, hd⟩ := c.ex
  refine ⟨f, hm.at_, hm.fn, ?_⟩
  have e0 : Env0 X.prog X.w X.K X.mg X.base A X.stack s H := by
    have e := I.env0
    exact ⟨by rw [hfr]; exact e.frames, e.mod, e.bs, e.bsz, e.funs, e.frf, e.hok, e.bare⟩
  have hds : ds = [] := by cases hd; rfl
  subst hds
  have hl := F.len _ _ _ _ hsp
  have r2 : Vals [V.ref a, V.ref b] [Value.ref a, Value.ref b] := .cons rfl (.cons rfl .nil)
  refine wpAny_call (codeAny_mono (F.run A X.stack s H ⟨[.ref a, .ref b], []⟩ [.ref a, .ref b] [.ref a, .ref b] _ C8.E0 hr e0 (by
    have := hb s [.ref a, .ref b] I.kIn (by simpa using hl)
    simpa using this) r2 hsp) fun r s' hq => ?_)
  cases r with
  | error e => exact C8.pass0 (E := C8.E0) pins σ H s e s' I hq
  | ok fl =>
    cases fl with
    | ret w =>
      obtain ⟨z, H', I', rz, q⟩ := I.after hq
      exact hQ w z H' s' I' rz q
    | next => exact False.elim hq
    | brk => exact False.elim hq
    | cont => exact False.elim hq
structure NeC (K : PySem.W.Frag) (C : Addr) : Prop where
  ne : PySem.W.findIn K (.ref C) "__ne__" = some (some (.builtin "object.__ne__"))
  ob : PySem.W.mroIn K C (.type "object") = some true
  sf : PySem.W.selfFirst K C = true
def rEqI (C : Addr) (sp : Sp) : R2 := fun x y H Q => ∃ a b dx dy fs gs, x = .ref a ∧ y = .ref b ∧ H a = some (.ins C dx fs) ∧ H b = some (.ins C dy gs) ∧ sp [.ref a, .ref b] H (fun v H' => ∃ r, v = .bl r ∧ Q (.bl r) H') C8.E0
def rNeI (C : Addr) (sp : Sp) : R2 := fun x y H Q => ∃ a b dx dy fs gs, x = .ref a ∧ y = .ref b ∧ H a = some (.ins C dx fs) ∧ H b = some (.ins C dy gs) ∧ sp [.ref a, .ref b] H (fun v H' => ∃ r, v = .bl r ∧ Q (.bl (!r)) H') C8.E0
def rOpI (C : Addr) (sp : Sp) : R2 := fun x y H Q => ∃ a b dx dy fs gs, x = .ref a ∧ y = .ref b ∧ H a = some (.ins C dx fs) ∧ H b = some (.ins C dy gs) ∧ sp [.ref a, .ref b] H (fun v H' => ∃ p, v = .ref p ∧ Q (.ref p) H') C8.E0
theorem op_eqI (c : Met X.prog X.w X.K X.mg X.base k C "__eq__" sp []) (hr : Room j X.A) (hk : k ≤ j) : OpR X (compareOp .Eq) (rEqI C sp) := by
  intro pins s σ H x y v u Q I rx ry h
  obtain ⟨a, b, dx, dy, fs, gs, rfl, rfl, ha, hb, hsp⟩ := h
  cases rx
  cases ry
  obtain ⟨mA, J, _⟩ := ins_get I.hok ha
  obtain ⟨mB, J', _⟩ := ins_get I.hok hb
  obtain ⟨od, J, _⟩ := J.look
  obtain ⟨od', J', _⟩ := J'.look
  obtain ⟨m, hF⟩ := I.fr
  obtain ⟨f, hs, hf, hw⟩ := met_run (Q := PySem.W.CmpBack (EP X pins σ Q)) c (hr.mono hk) rfl I hsp (fun v z H' s' I' rz q => by
    obtain ⟨r, rfl, q⟩ := q
    cases rz
    exact ⟨.bl r, H', I', rfl, q⟩)
  exact PySem.W.cmp_K (op := .Eq) (tb := .ref C) hr.units0 hF I.ok.mod.kin J J'.type (by simp [PySem.W.notFirst]) hs hf hw
theorem op_neI (n : NeC X.K C) (c : Met X.prog X.w X.K X.mg X.base k C "__eq__" sp []) (hr : Room j X.A) (hk : k + 1 ≤ j) : OpR X (compareOp .NotEq) (rNeI C sp) := by
  intro pins s σ H x y v u Q I rx ry h
  obtain ⟨a, b, dx, dy, fs, gs, rfl, rfl, ha, hb, hsp⟩ := h
  cases rx
  cases ry
  obtain ⟨mA, J, _⟩ := ins_get I.hok ha
  obtain ⟨mB, J', _⟩ := ins_get I.hok hb
  obtain ⟨od, J, _⟩ := J.look
  obtain ⟨od', J', _⟩ := J'.look
  obtain ⟨m, hF⟩ := I.fr
  obtain ⟨f, hs, hf, hw⟩ := met_run (Q := fun v s' => ∃ b, v = .bool b ∧ EP X pins σ Q (.bool (!b)) s') c (hr.mono hk).in1 rfl I hsp (fun v z H' s' I' rz q => by
    obtain ⟨r, rfl, q⟩ := q
    cases rz
    exact ⟨r, rfl, .bl (!r), H', I', rfl, q⟩)
  exact rcNe_own (hu_of hr) hF I.ok.mod.kin J J'.type hs hf n.ne n.ob hw
theorem op_mulI (n : NeC X.K C) (c : Met X.prog X.w X.K X.mg X.base k C "__mul__" sp []) (hr : Room j X.A) (hk : k ≤ j) : OpR X (binaryOp .Mult) (rOpI C sp) := by
  intro pins s σ H x y v u Q I rx ry h
  obtain ⟨a, b, dx, dy, fs, gs, rfl, rfl, ha, hb, hsp⟩ := h
  cases rx
  cases ry
  obtain ⟨mA, J, _⟩ := ins_get I.hok ha
  obtain ⟨mB, J', _⟩ := ins_get I.hok hb
  obtain ⟨od, J, _⟩ := J.look
  obtain ⟨od', J', _⟩ := J'.look
  obtain ⟨m, hF⟩ := I.fr
  obtain ⟨f, hs, hf, hw⟩ := met_run (Q := PySem.W.CmpBack (EP X pins σ Q)) c (hr.mono hk) rfl I hsp (fun v z H' s' I' rz q => by
    obtain ⟨p, rfl, q⟩ := q
    cases rz
    exact ⟨.ref p, H', I', rfl, q⟩)
  exact PySem.W.binop_K (op := .Mult) hF I.ok.mod.kin J J'.type n.sf hs hf hw
theorem op_addI (n : NeC X.K C) (c : Met X.prog X.w X.K X.mg X.base k C "__add__" sp []) (hr : Room j X.A) (hk : k ≤ j) : OpR X (binaryOp .Add) (rOpI C sp) := by
  intro pins s σ H x y v u Q I rx ry h
  obtain ⟨a, b, dx, dy, fs, gs, rfl, rfl, ha, hb, hsp⟩ := h
  cases rx
  cases ry
  obtain ⟨mA, J, _⟩ := ins_get I.hok ha
  obtain ⟨mB, J', _⟩ := ins_get I.hok hb
  obtain ⟨od, J, _⟩ := J.look
  obtain ⟨od', J', _⟩ := J'.look
  obtain ⟨m, hF⟩ := I.fr
  obtain ⟨f, hs, hf, hw⟩ := met_run (Q := PySem.W.CmpBack (EP X pins σ Q)) c (hr.mono hk) rfl I hsp (fun v z H' s' I' rz q => by
    obtain ⟨p, rfl, q⟩ := q
    cases rz
    exact ⟨.ref p, H', I', rfl, q⟩)
  exact PySem.W.binop_K (op := .Add) hF I.ok.mod.kin J J'.type n.sf hs hf hw
end
end LX
namespace LX
open PySem PySem.Spec PyProof.Rows L2 C8 SX
section
variable {X : Cx} {K : PySem.W.Frag} {H : Hp}
def txs (xs : List (List Nat)) : List V := xs.map fun l => V.str (S l)
theorem txs_len (xs : List (List Nat)) : (txs xs).length = xs.length := List.length_map ..
theorem dp_strs : ∀ xs : List (List Nat), DpAll K H (txs xs) (xs.map fun l => PyData.str (S l))
  | [] => .nil
  | x :: xs => .cons (.str _) (dp_strs xs)
theorem eqv_strs : ∀ xs ys : List (List Nat), PyData.eqvAll (xs.map fun l => PyData.str (S l)) (ys.map fun l => PyData.str (S l)) = decide (xs = ys)
  | [], [] => rfl
  | [], _ :: _ => rfl
  | _ :: _, [] => rfl
  | x :: xs, y :: ys => by
    show (S x == S y && PyData.eqvAll (xs.map fun l => PyData.str (S l)) (ys.map fun l => PyData.str (S l))) = _
    rw [S_beq_eq, eqv_strs xs ys, ← Bool.decide_and]
    exact decide_eq_decide.mpr (by rw [List.cons.injEq])
def Small (xs : List (List Nat)) : Prop := ∀ l ∈ xs, ∀ c ∈ l, c < 1114112
theorem lay_strs : ∀ {xs : List (List Nat)}, Small xs → PyData.canLayAll0 (xs.map fun l => PyData.str (S l)) = true ∧ PyData.depthAll (xs.map fun l => PyData.str (S l)) ≤ 1
  | [], _ => ⟨rfl, Nat.zero_le _⟩
  | x :: xs, h => by
    obtain ⟨h1, h2⟩ := lay_strs (xs := xs) fun l hl => h l (List.mem_cons_of_mem _ hl)
    refine ⟨?_, ?_⟩
    · show (PyData.canLay0 (.str (S x)) && PyData.canLayAll0 (xs.map fun l => PyData.str (S l))) = true
      rw [h1, Bool.and_true]
      show (S x).cps.all (· < 0x110000) = true
      rw [← Array.all_toList, List.all_eq_true]
      exact fun c hc => decide_eq_true (h x List.mem_cons_self c hc)
    · show max (PyData.depth (.str (S x))) (PyData.depthAll (xs.map fun l => PyData.str (S l))) ≤ 1
      have e : PyData.depth (.str (S x)) ≤ 1 := Nat.zero_le _
      omega
theorem shaped_lst {xs : List (List Nat)} (h : Small xs) : SeqAt.shaped (.list (xs.map fun l => PyData.str (S l))) = true := by
  obtain ⟨h1, h2⟩ := lay_strs h
  show (PyData.canLayAll0 _ && decide (PyData.depthAll _ + 1 ≤ 64)) = true
  rw [h1, Bool.true_and, decide_eq_true_eq]; omega
theorem shaped_tup {xs : List (List Nat)} (h : Small xs) : SeqAt.shaped (.tuple (xs.map fun l => PyData.str (S l))) = true := by
  obtain ⟨h1, h2⟩ := lay_strs h
  show (PyData.canLayAll0 _ && decide (PyData.depthAll _ + 1 ≤ 64)) = true
  rw [h1, Bool.true_and, decide_eq_true_eq]; omega
def rSs (K : PySem.W.Frag) (f : Bool → Bool) : R2 := fun x y H Q => ∃ (a b : Addr) (xs ys : List (List Nat)), x = .ref a ∧ y = .ref b ∧ ((SqL K H a (txs xs) ∧ SqL K H b (txs ys)) ∨ (SqT K H a (txs xs) ∧ SqT K H b (txs ys))) ∧ Small xs ∧ Small ys ∧ Q (.bl (f (decide (xs = ys)))) H
theorem op_eqSs {k : Nat} (hr : Room k X.A) : OpR X (compareOp .Eq) (rSs X.K fun b => b) := by
  intro pins s σ H x y v u Q I rx ry h
  obtain ⟨a, b, xs, ys, rfl, rfl, hh, hx, hy, q⟩ := h
  rcases hh with ⟨h1, h2⟩ | ⟨h1, h2⟩
  · exact op_eqD hr.units pins s σ H _ _ v u Q I rx ry ⟨_, _, .lst h1 (dp_strs xs), .lst h2 (dp_strs ys), shaped_lst hx, shaped_lst hy, by rw [show PyData.eqv (.list (xs.map fun l => PyData.str (S l))) (.list (ys.map fun l => PyData.str (S l))) = _ from eqv_strs xs ys]; exact q⟩
  · exact op_eqD hr.units pins s σ H _ _ v u Q I rx ry ⟨_, _, .tup h1 (dp_strs xs), .tup h2 (dp_strs ys), shaped_tup hx, shaped_tup hy, by rw [show PyData.eqv (.tuple (xs.map fun l => PyData.str (S l))) (.tuple (ys.map fun l => PyData.str (S l))) = _ from eqv_strs xs ys]; exact q⟩
theorem op_neSs {k : Nat} (hr : Room k X.A) : OpR X (compareOp .NotEq) (rSs X.K fun b => !b) := by
  intro pins s σ H x y v u Q I rx ry h
  obtain ⟨a, b, xs, ys, rfl, rfl, hh, hx, hy, q⟩ := h
  rcases hh with ⟨h1, h2⟩ | ⟨h1, h2⟩
  · exact op_neD hr.units pins s σ H _ _ v u Q I rx ry ⟨_, _, .lst h1 (dp_strs xs), .lst h2 (dp_strs ys), shaped_lst hx, shaped_lst hy, by rw [show PyData.eqv (.list (xs.map fun l => PyData.str (S l))) (.list (ys.map fun l => PyData.str (S l))) = _ from eqv_strs xs ys]; exact q⟩
  · exact op_neD hr.units pins s σ H _ _ v u Q I rx ry ⟨_, _, .tup h1 (dp_strs xs), .tup h2 (dp_strs ys), shaped_tup hx, shaped_tup hy, by rw [show PyData.eqv (.tuple (xs.map fun l => PyData.str (S l))) (.tuple (ys.map fun l => PyData.str (S l))) = _ from eqv_strs xs ys]; exact q⟩
end
theorem occ_idx {l : List Nat} {c : Nat} (h : c ∈ l) : ∃ r, Builtin.Str.occurrences (S l) (S [c]) 0 (S l).length 1 = l.idxOf c :: r := by
  have hlt := List.idxOf_lt_length_of_mem h
  have hat : StrLaws.At (S l) (S [c]) (S l).length (l.idxOf c) := (StrLaws.subAt_one (S l) c _).mpr (by show l[l.idxOf c]? = some c; rw [List.getElem?_eq_getElem hlt, List.getElem_idxOf hlt])
  rcases StrLaws.occ_head (S l) (S [c]) 1 (Nat.le_refl _) with ⟨_, hn⟩ | ⟨i, r, e, ha, hn⟩
  · exact absurd hat (hn _)
  · refine ⟨r, ?_⟩
    have hi : l[i]? = some c := (StrLaws.subAt_one (S l) c i).mp ha
    have h1 : ¬ l.idxOf c < i := fun z => hn _ z hat
    have h2 : ¬ i < l.idxOf c := fun z => by
      obtain ⟨hl, e⟩ := List.getElem?_eq_some_iff.mp hi
      have q := List.not_of_lt_findIdx (p := (· == c)) (xs := l) z
      simp [e] at q
    have : i = l.idxOf c := by omega
    rw [e, this]
structure Keep (Rel : Hp → Hp → Prop) (H1 : Hp) : Prop where
  refl : Rel H1 H1
  trans : ∀ H H', Rel H1 H → Rel H H' → Rel H1 H'
  put : ∀ H D o, Rel H1 H → H1 D = none → Rel H1 (upd H D o)
  get : ∀ H H' D o, Rel H H' → H1 D = none → Rel H1 H → H D = some o → H' D = some o
theorem keep_same {H1 : Hp} : Keep Same H1 where
  refl := Same.refl _
  trans := fun _ _ a b => a.trans b
  put := fun H D o s hD b u e => by rw [upd_ne (ne_of_none e hD)]; exact s b u e
  get := fun H H' D o s _ _ e => s _ _ e
def Bk (Pb : HO → Prop) (b : Addr) (H H' : Hp) : Prop := (∀ a o, a ≠ b → H a = some o → H' a = some o) ∧ ∃ o, H' b = some o ∧ Pb o
theorem keep_bk {Pb : HO → Prop} {b : Addr} {H1 : Hp} (h : ∃ o, H1 b = some o ∧ Pb o) : Keep (Bk Pb b) H1 where
  refl := ⟨fun _ _ _ e => e, h⟩
  trans := fun _ _ p q => ⟨fun a o n e => q.1 a o n (p.1 a o n e), q.2⟩
  put := fun H D o s hD => by
    obtain ⟨o1, e1, _⟩ := h
    refine ⟨fun a u n e => by rw [upd_ne (ne_of_none e hD)]; exact s.1 a u n e, ?_⟩
    rw [upd_ne (ne_of_none e1 hD)]
    exact s.2
  get := fun H H' D o s hD _ e => by
    obtain ⟨o1, e1, _⟩ := h
    exact s.1 D o (ne_of_none e1 hD).symm e
theorem bk_same {Pb : HO → Prop} {b : Addr} {H H' : Hp} (s : Same H H') (h : ∃ o, H b = some o ∧ Pb o) : Bk Pb b H H' := ⟨fun a o _ e => s a o e, let ⟨o, e, p⟩ := h; ⟨o, s b o e, p⟩⟩
theorem sm_put {H H' : Hp} {p : Addr} {o : HO} (s : Same H H') (h : H p = none) : Same H (upd H' p o) := fun b u e => by rw [upd_ne (ne_of_none e h)]; exact s b u e
theorem sm_put' {H H' : Hp} {p : Addr} {o : HO} (s : Same H H') (h : H' p = none) : Same H (upd H' p o) := sm_put s (s.free h)
theorem sm_new {H : Hp} {p : Addr} {o : HO} (h : H p = none) : Same H (upd H p o) := sm_put (Same.refl H) h
theorem sm_seqT {K : PySem.W.Frag} {H H' : Hp} {a : Addr} {xs : List V} (e : Same H H') (h : SqT K H a xs) : SqT K H' a xs :=
  h.elim (fun h => .inl (h.elim (fun h => .inl (e _ _ h)) fun ⟨o, h⟩ => .inr ⟨o, e _ _ h⟩)) fun h => .inr h
theorem bk_seq {Pb : HO → Prop} {K : PySem.W.Frag} {b : Addr} {H H' : Hp} {a : Addr} {xs : List V} (e : Bk Pb b H H') (n : a ≠ b) (h : SqL K H a xs) : SqL K H' a xs := by
  rcases h with (h | ⟨o, h⟩) | h
  · exact .inl (.inl (e.1 _ _ n h))
  · exact .inl (.inr ⟨o, e.1 _ _ n h⟩)
  · exact .inr h
theorem lc_keep {Rel : Hp → Hp → Prop} {J : It} {n : Nat} {G : Hp → Prop} {Y : Nat → Hp → V → Hp → Prop} {H1 : Hp} (kp : Keep Rel H1) (w : Walk J n G Y) {g : TG} {te : TE} {vs : List Nat} {σ : L2.St} {D : Addr} {Qd : Hp → Prop} (hD : H1 D = none) (hn : n < sizeLine)
    (Good : Nat → V → Prop) (hG : ∀ H, Rel H1 H → G H)
    (hs : ∀ i x H H' (R : V → Hp → Prop), i < n → Rel H1 H → Y i H x H' → (∀ y H4, Rel H H4 → Good i y → R y H4) → g x (wipe σ vs) H' fun σ2 H2 => wipe σ2 vs = wipe σ vs ∧ te σ2 H2 R)
    (hd : ∀ ys H, ys.length = n → (∀ (j : Nat) y, ys[j]? = some y → Good j y) → Rel H1 H → H D = some (.lst ys) → Qd H) :
    ∃ W : Nat → Nat → Hp → Prop, (∃ m, W 0 m (upd H1 D (.lst []))) ∧ ∀ i m H, W i m H →
      (J.stop i H ∧ Qd H) ∨ (J.go i H ∧ ∃ Nx : Hp → Prop, (∀ H', Nx H' → ∃ m', m' < m ∧ W (i + 1) m' H') ∧ ∀ x H', J.yld i H x H' → g x (wipe σ vs) H' fun σ2 H2 => wipe σ2 vs = wipe σ vs ∧ tYes σ2 H2 fun b H3 =>
        if b = true then te σ2 H3 fun y H4 => ∃ acc, H4 D = some (.lst acc) ∧ acc.length < sizeLine ∧ Nx (upd H4 D (.lst (acc ++ [y]))) else Nx H3) := by
  refine lc_it w (fun i H => ∃ acc, acc.length = i ∧ H D = some (.lst acc) ∧ Rel H1 H ∧ ∀ (j : Nat) y, acc[j]? = some y → Good j y) ⟨[], rfl, upd_same, kp.put _ _ _ kp.refl hD, fun j y e => by simp at e⟩ (fun i H _ ⟨_, _, _, r, _⟩ => hG H r) (fun i x H H' hi ⟨acc, hl, hDa, r, hg⟩ hy => ?_) (fun H ⟨acc, hl, hDa, r, hg⟩ => hd acc H hl hg r hDa)
  refine hs i x H H' _ hi r hy fun y H4 r4 gy => ?_
  refine ⟨acc, kp.get _ _ _ _ r4 hD r hDa, by omega, acc ++ [y], by simp [hl], upd_same, kp.put _ _ _ (kp.trans _ _ r r4) hD, fun j z e => ?_⟩
  rcases Nat.lt_or_ge j acc.length with h | h
  · rw [List.getElem?_append_left h] at e
    exact hg j z e
  · rw [List.getElem?_append_right h] at e
    have hj : j - acc.length = 0 := by
      rcases Nat.lt_or_ge (j - acc.length) 1 with z | z
      · omega
      · rw [List.getElem?_eq_none (by simpa using z)] at e; cases e
    rw [hj] at e
    have : y = z := Option.some.inj e
    subst this
    have : j = i := by omega
    subst this
    exact gy
theorem list_of {α : Type} {ys : List α} {n : Nat} {f : Nat → α} (hl : ys.length = n) (h : ∀ (j : Nat) y, ys[j]? = some y → y = f j) : ys = (List.range n).map f := by
  apply List.ext_getElem
  · simp [hl]
  · intro i h1 h2
    rw [List.getElem_map, List.getElem_range]
    exact h i _ (List.getElem?_eq_getElem h1)
theorem list_map {α β : Type} {ys : List β} {xs : List α} {f : α → β} (hl : ys.length = xs.length) (h : ∀ (j : Nat) y x, ys[j]? = some y → xs[j]? = some x → y = f x) : ys = xs.map f := by
  apply List.ext_getElem
  · simp [hl]
  · intro i h1 h2
    rw [List.getElem_map]
    exact h i _ _ (List.getElem?_eq_getElem h1) (List.getElem?_eq_getElem (by omega))
end LX
namespace LX
open PySem PySem.Spec PyProof.Rows L2 C8 SX
section
variable {X : Cx}
theorem ixl (K : PySem.W.Frag) (h : X.K = K := by rfl) : IxR X (rIxL K) := by subst h; exact ix_list
theorem ixt (K : PySem.W.Frag) (h : X.K = K := by rfl) : IxR X (rIxT K) := by subst h; exact ix_tup
theorem lenK (K : PySem.W.Frag) (h : X.K = K := by rfl) : CallR X (.builtin "len") (fun xs H Q => ∃ p ys, xs = [.ref p] ∧ (SqL K H p ys ∨ SqT K H p ys) ∧ Q (.int ys.length) H) := by subst h; exact call_len_seq
theorem listK (K : PySem.W.Frag) (h : X.K = K := by rfl) : CallR X (.type "list") (fun xs H Q => ∃ p ys, xs = [.ref p] ∧ (SqL K H p ys ∨ SqT K H p ys) ∧ ∀ l, H l = none → Q (.ref l) (upd H l (.lst ys))) := by subst h; exact call_list_of
theorem tupleK (K : PySem.W.Frag) (h : X.K = K := by rfl) : CallR X (.type "tuple") (fun xs H Q => ∃ p ys, xs = [.ref p] ∧ ((SqL K H p ys ∧ ∀ l, H l = none → Q (.ref l) (upd H l (.tup ys))) ∨ (SqT K H p ys ∧ Q (.ref p) H))) := by subst h; exact call_tuple_of
theorem isiK (K : PySem.W.Frag) (h : X.K = K := by rfl) : CallR X (.builtin "isinstance") (rIsi K) := by subst h; exact call_isi
theorem isiTK (K : PySem.W.Frag) (h : X.K = K := by rfl) : CallR X (.builtin "isinstance") (rIsiT K) := by subst h; exact call_isiT
theorem fldK (K : PySem.W.Frag) {o : Expr} {f : Str} {pos : Pos} {ta : TE} (ha : PE X o ta) (hb : attributeBase o f X.env (eval o X.env) = eval o X.env) (h : X.K = K := by rfl) : PE X (.Attribute o f pos) (tFld K ta f) := by subst h; exact pe_fld ha hb
theorem tupK (K : PySem.W.Frag) {es : List Expr} {k : Nat} {pos : Pos} {t : TGs} (n : Nat) (h : PGs X es t) (hc : X.calm = true := by rfl)
    (hn : (assignEach es X.env).length = n := by rfl) (hst : (assignEach es X.env).findIdx? (·.1) = none := by rfl) (hK : X.K = K := by rfl) : PG X (.Tuple es k pos) (gTup K n t) := by subst hK; exact pg_tup hc h hn hst
theorem unlK (K : PySem.W.Frag) {es : List Expr} {k : Nat} {pos : Pos} {t : TGs} (n : Nat) (h : PGs X es t) (hc : X.calm = true := by rfl)
    (hn : (assignEach es X.env).length = n := by rfl) (hst : (assignEach es X.env).findIdx? (·.1) = none := by rfl) (hK : X.K = K := by rfl) : PG X (.Tuple es k pos) (gUnl K n t) := by subst hK; exact pg_unl hc h hn hst
end
def Sr.is (K : PySem.W.Frag) (H : Hp) (xs : List V) : Sr → Prop
  | .txt x => xs = x.cps.toList.map fun c => V.str ⟨#[c]⟩
  | .lst a => SqL K H a xs
  | .tup a => SqT K H a xs
theorem Sr.is_there {K : PySem.W.Frag} {H : Hp} {xs : List V} : ∀ {S : Sr}, S.is K H xs → S.there K H
  | .txt _, _ => trivial
  | .lst _, h => ⟨xs, h⟩
  | .tup _, h => ⟨xs, h⟩
theorem Sr.is_has {K : PySem.W.Frag} {H : Hp} {xs : List V} {i : Nat} (hi : i < xs.length) : ∀ {S : Sr}, S.is K H xs → S.has K i H
  | .txt x, h => by
    have h' : xs = x.cps.toList.map fun c => V.str ⟨#[c]⟩ := h
    rw [h', List.length_map] at hi
    show i < x.cps.size; simpa using hi
  | .lst _, h => ⟨xs, h, hi⟩
  | .tup _, h => ⟨xs, h, hi⟩
theorem Sr.is_upto {K : PySem.W.Frag} {H : Hp} {xs : List V} {i : Nat} (hi : i ≤ xs.length) : ∀ {S : Sr}, S.is K H xs → S.upto K i H
  | .txt x, h => by
    have h' : xs = x.cps.toList.map fun c => V.str ⟨#[c]⟩ := h
    rw [h', List.length_map] at hi
    show i ≤ x.cps.size; simpa using hi
  | .lst _, h => ⟨xs, h, hi⟩
  | .tup _, h => ⟨xs, h, hi⟩
theorem Sr.is_ends {K : PySem.W.Frag} {H : Hp} {xs : List V} {i : Nat} (hi : i = xs.length) : ∀ {S : Sr}, S.is K H xs → S.ends K i H
  | .txt x, h => by
    have h' : xs = x.cps.toList.map fun c => V.str ⟨#[c]⟩ := h
    rw [h', List.length_map] at hi
    show i = x.cps.size; simpa using hi
  | .lst _, h => ⟨xs, h, hi⟩
  | .tup _, h => ⟨xs, h, hi⟩
theorem Sr.is_val {K : PySem.W.Frag} {H : Hp} {xs : List V} {i : Nat} {v : V} : ∀ {S : Sr}, S.is K H xs → S.val K i H v → xs[i]? = some v
  | .txt x, h, ⟨c, e, ev⟩ => by
    have h' : xs = x.cps.toList.map fun c => V.str ⟨#[c]⟩ := h
    have e' : x.cps.toList[i]? = some c := by simpa using e
    rw [h', List.getElem?_map, e', ev]; rfl
  | .lst _, h, e => e xs h
  | .tup _, h, e => e xs h
theorem walk_zipX {K : PySem.W.Frag} {S1 S2 : Sr} {xs ys : List V} : Walk (ItzX K S1 S2) (min xs.length ys.length) (fun H => S1.is K H xs ∧ S2.is K H ys) (YPair (fun i => xs[i]?) (fun i => ys[i]?)) := by
  refine ⟨fun i _ hi q => ⟨Sr.is_has (by omega) q.1, Sr.is_has (by omega) q.2⟩, fun _ q => ⟨Sr.is_upto (by omega) q.1, Sr.is_upto (by omega) q.2, ?_⟩, fun i H v H' _ q y => ?_⟩
  · rcases Nat.le_total xs.length ys.length with h | h
    · exact .inl (Sr.is_ends (by omega) q.1)
    · exact .inr (Sr.is_ends (by omega) q.2)
  · obtain ⟨T, x, z, h1, h2, h3, h4, h5⟩ := y
    exact ⟨T, x, z, h1, h2, h3, Sr.is_val q.1 h4, Sr.is_val q.2 h5⟩
end LX
namespace LX
open PySem PySem.Spec PyProof.Rows L2 C8 SX
theorem lc_keepH {Rel : Hp → Hp → Prop} {J : It} {n : Nat} {G : Hp → Prop} {Y : Nat → Hp → V → Hp → Prop} {H1 : Hp} (kp : Keep Rel H1) (w : Walk J n G Y) {g : TG} {te : TE} {vs : List Nat} {σ : L2.St} {D : Addr} {Qd : Hp → Prop} (hD : H1 D = none) (hn : n < sizeLine)
    (Good : Nat → V → Hp → Prop) (hG : ∀ H, Rel H1 H → G H)
    (st : ∀ i y H H', Rel H1 H → Rel H H' → Good i y H → Good i y H') (pt : ∀ i y H acc o, Rel H1 H → H D = some (.lst acc) → Good i y H → Good i y (upd H D o))
    (hs : ∀ i x H H' acc (R : V → Hp → Prop), i < n → Rel H1 H → H D = some (.lst acc) → Y i H x H' → (∀ y H4, Rel H H4 → Good i y H4 → R y H4) → g x (wipe σ vs) H' fun σ2 H2 => wipe σ2 vs = wipe σ vs ∧ te σ2 H2 R)
    (hd : ∀ ys H, ys.length = n → (∀ (j : Nat) y, ys[j]? = some y → Good j y H) → Rel H1 H → H D = some (.lst ys) → Qd H) :
    ∃ W : Nat → Nat → Hp → Prop, (∃ m, W 0 m (upd H1 D (.lst []))) ∧ ∀ i m H, W i m H →
      (J.stop i H ∧ Qd H) ∨ (J.go i H ∧ ∃ Nx : Hp → Prop, (∀ H', Nx H' → ∃ m', m' < m ∧ W (i + 1) m' H') ∧ ∀ x H', J.yld i H x H' → g x (wipe σ vs) H' fun σ2 H2 => wipe σ2 vs = wipe σ vs ∧ tYes σ2 H2 fun b H3 =>
        if b = true then te σ2 H3 fun y H4 => ∃ acc, H4 D = some (.lst acc) ∧ acc.length < sizeLine ∧ Nx (upd H4 D (.lst (acc ++ [y]))) else Nx H3) := by
  refine lc_it w (fun i H => ∃ acc, acc.length = i ∧ H D = some (.lst acc) ∧ Rel H1 H ∧ ∀ (j : Nat) y, acc[j]? = some y → Good j y H) ⟨[], rfl, upd_same, kp.put _ _ _ kp.refl hD, fun j y e => by simp at e⟩ (fun i H _ ⟨_, _, _, r, _⟩ => hG H r) (fun i x H H' hi ⟨acc, hl, hDa, r, hg⟩ hy => ?_) (fun H ⟨acc, hl, hDa, r, hg⟩ => hd acc H hl hg r hDa)
  refine hs i x H H' acc _ hi r hDa hy fun y H4 r4 gy => ?_
  have hD4 := kp.get _ _ _ _ r4 hD r hDa
  have r5 := kp.trans _ _ r r4
  refine ⟨acc, hD4, by omega, acc ++ [y], by simp [hl], upd_same, kp.put _ _ _ r5 hD, fun j z e => ?_⟩
  rcases Nat.lt_or_ge j acc.length with h | h
  · rw [List.getElem?_append_left h] at e
    exact pt _ _ _ _ _ r5 hD4 (st _ _ _ _ r r4 (hg j z e))
  · rw [List.getElem?_append_right h] at e
    have hj : j - acc.length = 0 := by
      rcases Nat.lt_or_ge (j - acc.length) 1 with z | z
      · omega
      · rw [List.getElem?_eq_none (by simpa using z)] at e; cases e
    rw [hj] at e
    have : y = z := Option.some.inj e
    subst this
    have : j = i := by omega
    subst this
    exact pt _ _ _ _ _ r5 hD4 gy
end LX
namespace LX
open PySem PySem.Spec PyProof.Rows L2 C8 SX
def bx (x y z : Int) : HO := .lst [.int x, .int y, .int z]
def isBx (o : HO) : Prop := ∃ x y z : Int, o = bx x y z
def BoxAt (b : Addr) (H : Hp) : Prop := ∃ o, H b = some o ∧ isBx o
abbrev Bx (b : Addr) : Hp → Hp → Prop := Bk isBx b
theorem Bx.box {b : Addr} {H H' : Hp} (h : Bx b H H') : BoxAt b H' := h.2
theorem BoxAt.of {b : Addr} {H : Hp} {x y z : Int} (h : H b = some (bx x y z)) : BoxAt b H := ⟨_, h, _, _, _, rfl⟩
theorem Bx.mk {b : Addr} {H : Hp} (x y z : Int) : Bx b H (upd H b (bx x y z)) := ⟨fun a o n e => by rw [upd_ne n]; exact e, _, upd_same, _, _, _, rfl⟩
theorem Bx.trans {b : Addr} {H H1 H2 : Hp} (p : Bx b H H1) (q : Bx b H1 H2) : Bx b H H2 := ⟨fun a o n e => q.1 a o n (p.1 a o n e), q.2⟩
theorem box_ne {b p : Addr} {H : Hp} (h : BoxAt b H) (n : H p = none) : p ≠ b := by
  obtain ⟨o, e, _⟩ := h
  exact (ne_of_none e n).symm
theorem Bx.put {b p : Addr} {H H1 : Hp} {o : HO} (s : Bx b H H1) (h : BoxAt b H) (n : H p = none) : Bx b H (upd H1 p o) := (keep_bk h).put _ _ _ s n
theorem Bx.free {b p : Addr} {H H1 : Hp} (s : Bx b H H1) (n : H1 p = none) : H p = none := by
  cases q : H p with
  | none => rfl
  | some o =>
    by_cases e : p = b
    · subst e; obtain ⟨u, z, _⟩ := s.2; rw [n] at z; cases z
    · rw [s.1 p o e q] at n; cases n
theorem nil1 {σ : L2.St} {H : Hp} {R : List V → Hp → Prop} (h : R [] H) : tNil σ H R := h
theorem consc {v : V} {σ : L2.St} {H : Hp} {R : List V → Hp → Prop} (h : R [v] H) : tCons (tC v) tNil σ H R := h
theorem tc1 {v : V} {σ : L2.St} {H : Hp} {Q : VK} (h : Q v H) : tC v σ H Q := h
theorem ne_str {l r : Str} {H : Hp} {R : VK} (e : l = r) (h : R (.bl false) H) : rNe (.str l) (.str r) H R := ⟨rfl, by rw [decide_eq_true (by rw [e])]; exact h⟩
theorem bl_f {p : Bool → Prop} (h : p false) : ∃ k, V.bl false = V.bl k ∧ p k := ⟨false, rfl, h⟩
theorem if_f {p q : Prop} (h : q) : if false = true then p else q := h
theorem iteB {c : Bool} {A B : Prop} (hc : c = true) (h : A) : if c = true then A else B := by rw [if_pos hc]; exact h
theorem iteN {c : Bool} {A B : Prop} (hc : c = false) (h : B) : if c = true then A else B := by rw [hc]; exact iteF h
theorem perm_at {α : Type} : ∀ {xs : List α} {i : Nat} (h : i < xs.length), (xs[i] :: xs.eraseIdx i).Perm xs
  | x :: xs, 0, _ => List.Perm.refl _
  | x :: xs, i + 1, h => (List.Perm.swap x _ _).trans ((perm_at (xs := xs) (i := i) (Nat.lt_of_succ_lt_succ h)).cons x)
theorem eraseIdx_map' {α β : Type} (f : α → β) : ∀ (xs : List α) (i : Nat), (xs.map f).eraseIdx i = (xs.eraseIdx i).map f
  | [], i => by cases i <;> rfl
  | x :: xs, 0 => rfl
  | x :: xs, i + 1 => congrArg (f x :: ·) (eraseIdx_map' f xs i)
theorem perm_map_inv {α β : Type} {f : α → β} {g : β → α} (hg : ∀ a, g (f a) = a) {ys : List β} {xs : List α} (h : ys.Perm (xs.map f)) : ∃ zs : List α, ys = zs.map f ∧ zs.Perm xs := by
  refine ⟨ys.map g, ?_, ?_⟩
  · rw [List.map_map]
    have : ys.map (f ∘ g) = ys.map id := List.map_congr_left fun y hy => by
      obtain ⟨a, _, rfl⟩ := List.mem_map.mp (h.subset hy)
      show f (g (f a)) = f a
      rw [hg]
    rw [this, List.map_id]
  · have e := h.map g
    rw [List.map_map] at e
    have : xs.map (g ∘ f) = xs.map id := List.map_congr_left fun a _ => hg a
    rw [this, List.map_id] at e
    exact e
theorem sums_singles : ∀ l : List Nat, ((l.map fun c => S [c]).map (·.length)).sum = l.length
  | [] => rfl
  | c :: l => by simp only [List.map_cons, List.sum_cons, sums_singles l, List.length_cons]; rw [S_len]; simp; omega
theorem join_nil : ∀ ys : List (List Nat), TL.joinL [] ys = ys.flatten
  | [] => rfl
  | [y] => by simp [TL.joinL]
  | y :: z :: ys => by
    have ih := join_nil (z :: ys)
    simp [TL.joinL] at ih ⊢
    exact ih
theorem join_txs (ys : List (List Nat)) : Txt.join (S []) (ys.map S) = S ys.flatten := by rw [join_S, join_nil]
theorem flat_singles : ∀ l : List Nat, (l.map fun c => [c]).flatten = l
  | [] => rfl
  | c :: l => by rw [List.map_cons, List.flatten_cons, flat_singles l]; rfl
theorem join_singles (l : List Nat) : Txt.join (S []) (l.map fun c => S [c]) = S l := by
  have e1 : (l.map fun c => S [c]) = (l.map fun c => [c]).map S := by rw [List.map_map]; rfl
  rw [e1, join_txs, flat_singles]
theorem rising_singles : ∀ (ds : List Nat) (c : Nat), risingS (S [c]) (ds.map fun d => S [d]) = true → (∀ d ∈ ds, c ≤ d) ∧ ds.Pairwise (· ≤ ·)
  | [], _, _ => ⟨fun _ h => (nomatch h), .nil⟩
  | d :: ds, c, h => by
    have h' : (!ltCps [d] [c] && risingS (S [d]) (ds.map fun d => S [d])) = true := h
    rw [Bool.and_eq_true, Bool.not_eq_true'] at h'
    obtain ⟨h1, h2⟩ := h'
    obtain ⟨i1, i2⟩ := rising_singles ds d h2
    have hcd : c ≤ d := by
      rcases Nat.lt_or_ge d c with q | q
      · simp [ltCps, q] at h1
      · exact q
    refine ⟨fun e he => ?_, List.pairwise_cons.mpr ⟨i1, i2⟩⟩
    rcases List.mem_cons.mp he with rfl | he
    · exact hcd
    · exact Nat.le_trans hcd (i1 e he)
theorem sorted_singles {ds : List Nat} (h : sortedS (ds.map fun d => S [d]) = true) : ds.Pairwise (· ≤ ·) := by
  cases ds with
  | nil => exact .nil
  | cons d ds =>
    obtain ⟨i1, i2⟩ := rising_singles ds d h
    exact List.pairwise_cons.mpr ⟨i1, i2⟩
theorem strict_of {ds : List Nat} (h : ds.Pairwise (· ≤ ·)) (n : ds.Nodup) : ds.Pairwise (· < ·) :=
  (h.and n).imp fun ⟨a, b⟩ => Nat.lt_of_le_of_ne a b
open Classical in
theorem fun_of {α γ : Type} [DecidableEq α] [Inhabited γ] {sg : List α} (n : sg.Nodup) {P : Nat → α → γ → Prop} (h : ∀ j c, sg[j]? = some c → ∃ v, P j c v) : ∃ g : α → γ, ∀ j c, sg[j]? = some c → P j c (g c) := by
  refine ⟨fun c => if q : ∃ v, P (sg.idxOf c) c v then q.choose else default, fun j c e => ?_⟩
  have hj : j = sg.idxOf c := by
    obtain ⟨hl, e2⟩ := List.getElem?_eq_some_iff.mp e
    subst e2
    exact (n.idxOf_getElem j hl).symm
  have q : ∃ v, P (sg.idxOf c) c v := hj ▸ h j c e
  show P j c (dite _ _ _)
  rw [dif_pos q, hj]
  exact q.choose_spec
theorem paired_map {α β γ : Type} {R : α → β → Prop} {f : γ → α} {g : γ → β} : ∀ {l : List γ}, (∀ c ∈ l, R (f c) (g c)) → Paired R (l.map f) (l.map g)
  | [], _ => .nil
  | c :: l, h => .cons (h c List.mem_cons_self) (paired_map fun d hd => h d (List.mem_cons_of_mem _ hd))
abbrev tk (l : List Nat) : Key := Sum.inr (S l)
theorem tk_inj {l r : List Nat} (h : tk l = tk r) : l = r := by
  have e : S l = S r := Sum.inr.inj h
  have : (S l).cps.toList = (S r).cps.toList := by rw [e]
  simpa [S] using this
theorem valV_none {kvs : List (Key × V)} {k : Key} (h : ∀ p ∈ kvs, p.1 ≠ k) : valV kvs k = none := by
  unfold valV
  rw [List.find?_eq_none.mpr fun p hp => by simpa using h p hp]
  rfl
theorem valV_map' {α : Type} [DecidableEq α] {key : α → Key} (inj : ∀ a b, key a = key b → a = b) {f : α → V} : ∀ {l : List α} {c : α}, c ∈ l → valV (l.map fun a => (key a, f a)) (key c) = some (f c)
  | a :: l, c, h => by
    by_cases e : a = c
    · subst e; exact valV_pos rfl
    · rw [List.map_cons, valV_neg (fun q => e (inj _ _ q))]
      refine valV_map' inj ?_
      rcases List.mem_cons.mp h with q | q
      · exact absurd q.symm e
      · exact q
theorem merge_new : ∀ {more kvs : List (Key × V)}, (∀ p ∈ more, ∀ q ∈ kvs, q.1 ≠ p.1) → (more.map (·.1)).Nodup → mergeK kvs more = kvs ++ more
  | [], kvs, _, _ => by rw [List.append_nil]; rfl
  | p :: more, kvs, h, n => by
    have e : putK kvs p.1 p.2 = kvs ++ [p] := putK_new _ (valV_none fun q hq => h p List.mem_cons_self q hq)
    show mergeK (putK kvs p.1 p.2) more = _
    rw [List.map_cons, List.nodup_cons] at n
    rw [e, merge_new (fun r hr q hq => ?_) n.2, List.append_assoc]
    · rfl
    · rcases List.mem_append.mp hq with hq | hq
      · exact h r (List.mem_cons_of_mem _ hr) q hq
      · rw [List.mem_singleton] at hq
        subst hq
        exact fun e => n.1 (e ▸ List.mem_map_of_mem hr)
theorem merge_nil {more : List (Key × V)} (n : (more.map (·.1)).Nodup) : mergeK [] more = more := by
  rw [merge_new (fun _ _ q h => absurd h List.not_mem_nil) n]; rfl
theorem nodup_keys {α : Type} {key : α → Key} (inj : ∀ a b, key a = key b → a = b) {f : α → V} {l : List α} (n : l.Nodup) : ((l.map fun a => (key a, f a)).map (·.1)).Nodup := by
  rw [List.map_map]
  exact List.pairwise_map.mpr (n.imp fun h e => h (inj _ _ e))
theorem cut_to (ys : List (List Nat)) (k : Nat) : cutV (txs ys) none (some (k : Int)) = txs (ys.take k) := by
  unfold cutV
  rw [HT.sIx_none, HT.sIx_nat, List.drop_zero, Nat.sub_zero, txs_len]
  unfold txs
  rw [← List.map_take]
  rcases Nat.le_total k ys.length with h | h
  · rw [Nat.min_eq_left h]
  · rw [Nat.min_eq_right h, List.take_length, List.take_of_length_le h]
theorem tup_ne_box {H : Hp} {t b : Addr} {xs : List V} (hb : BoxAt b H) (ht : H t = some (.tup xs)) : t ≠ b := by
  obtain ⟨o, e, x, y, z, rfl⟩ := hb
  exact ne_of ht e (by intro h; cases h)
theorem dict_ne_box {H : Hp} {t b : Addr} {xs : List (Key × V)} (hb : BoxAt b H) (ht : H t = some (.dK xs)) : t ≠ b := by
  obtain ⟨o, e, x, y, z, rfl⟩ := hb
  exact ne_of ht e (by intro h; cases h)
theorem not_in_take {α : Type} [DecidableEq α] {ms : List α} {i : Nat} {m : α} (n : ms.Nodup) (h : ms[i]? = some m) : m ∉ ms.take i := fun hm => by
  obtain ⟨j, hj⟩ := List.getElem?_of_mem hm
  have hji : j < i := by
    have := (List.getElem?_eq_some_iff.mp hj).1
    rw [List.length_take] at this; omega
  rw [List.getElem?_take_of_lt hji] at hj
  have h1 := (List.getElem?_eq_some_iff.mp h)
  have h2 := (List.getElem?_eq_some_iff.mp hj)
  obtain ⟨a1, a2⟩ := h1
  obtain ⟨b1, b2⟩ := h2
  have e1 : ms.idxOf m = i := by subst a2; exact n.idxOf_getElem i a1
  have e2 : ms.idxOf m = j := by subst b2; exact n.idxOf_getElem j b1
  omega
theorem take_more {α : Type} {ms : List α} {i : Nat} {m : α} (h : ms[i]? = some m) : ms.take (i + 1) = ms.take i ++ [m] := by
  rw [List.take_succ, h]; rfl
theorem sz {n m : Nat} (h : n ≤ m) (hm : m ≤ 1000) : n ≤ sizeLine := Nat.le_trans (Nat.le_trans h hm) (show 1000 ≤ sizeLine by decide)
end LX
set_option maxHeartbeats 2000000
namespace LX
open PySem PySem.Spec PyProof.Rows L2 C8 SX
structure FnG (P : Program) (w : World) (K : PySem.W.Frag) (mg : Str → Option Value) (base : Heap) (k : Nat) (f : Addr) (fd : FuncData) (ps : List Str) (sp : Sp) : Prop where
  many : ∀ vs H Q E, sp vs H Q E → vs.length = ps.length
  goes : ∀ (A : Around) (ou : List Env) (t : Shared) (H : Hp) (gs : Args) (us : List Value) (vs : List V) (Q : VK) (E : XK), A.guards = some [] → Room k A → Env0 P w K mg base A ou t H → BindsTo t fd gs (ps.zip us) → Vals vs us →
    sp vs H Q E → codeAny (model P w) A (.call (.ref f) gs) (CR C8.CX0 ou P w H t Q E) t
theorem FnG.of {P : Program} {w : World} {K : PySem.W.Frag} {mg : Str → Option Value} {base : Heap} {k : Nat} {f : Addr} {fd : FuncData} {ps : List Str} {sp : Sp} (F : FnOk P w K mg base C8.CX0 k f fd ps sp) : FnG P w K mg base k f fd ps sp :=
  ⟨F.len, fun A ou t H gs us vs Q E _ => F.run A ou t H gs us vs Q E⟩
theorem fnG0 {P : Program} {w : World} {K : PySem.W.Frag} {mg : Str → Option Value} {base : Heap} {x ql : Str} {st : Stmt} {f : Addr} {fd : FuncData} {N ps : List Str} {k : Nat} {sp : Sp} (F : C8.Fun K x ql st f fd) (Sc : FnScope N ps (C8.fnScope st))
    (many : ∀ vs H Q E, sp vs H Q E → vs.length = ps.length)
    (h : ∀ (cd : Value) (A : Around) (ou : List Env) (t : Shared) (H : Hp) (vs : List V) (Q : VK) (E : XK), A.guards = some [] → Room k (A.deeper (envOfC ql (C8.fnScope st) t.heap.objs.size f cd)) → sp vs H Q E →
      ∃ r, PSs (cxOf C8.CX0 P w K mg base N ql (C8.fnScope st) f cd A ou t H E).nox (C8.fnBody st) r ∧ r { nx := fun _ H' => Q .non H', rt := Q } (L2.start N vs) H) : FnG P w K mg base (k + 1) f fd ps sp := by
  obtain ⟨oc, od, dV, kV, doc, pm, an, cd, ct, osl, rfl, at_, code⟩ := F.ex
  constructor
  · exact many
  intro A ou t H gs us vs Q E gd room e0 bound rel want
  have count := many _ _ _ _ want
  have old : ∀ (b : Addr) (o : Obj), base.get? b = some o → t.heap.get? b = some o := fun b o e => (e0.bs b o e).1
  have KT : K.In t.heap := e0.mod.kin.keeps old
  have kinds : ∀ y ∈ ps.zip us, (C8.fnScope st).names.lookup y.1 = some .local ∨ ((C8.fnScope st).names.lookup y.1 = some .cell ∧ ((cellsFrom (t.heap.objs.size + 1) (C8.fnScope st).names []).lookup y.1).isSome = true) := by
    intro y hy
    obtain ⟨n, v⟩ := y
    exact (Sc.par n (List.of_mem_zip hy).1).elim .inl fun q => .inr ⟨q, PySem.W.cellsFrom_some _ _ _ (.inl q)⟩
  refine codeAny_call_function room.depth (KT _ _ at_) rfl Sc.co Sc.gen rfl (PySem.W.codeRec_of KT code) (bound _ _ _ _ ?_)
  refine wpAny_newFunctionEnv_cells Sc.kind kinds fun en en_is t1 inside => ?_
  subst en_is
  refine ⟨(e0.mod.nolimit.keeps old).keeps inside.toInCall.keep, codeAny_func ?_⟩
  obtain ⟨r, body, read⟩ := h cd A ou t H vs Q E gd (room.deeper _) want
  have I0 := inv_start (CX := C8.CX0) (E := E) Sc room.hd e0 count rel inside
  refine wpAny_mono (body.nox.run [] t1 (L2.start N vs) H _ I0 read) (fun fl t' got => ?_) fun _ _ got => got
  cases fl with
  | ret u => exact let ⟨v, _, H', J, rv, q⟩ := got; ⟨v, H', J.os, J.bare, J.base, J.hok, rv, q⟩
  | next => exact let ⟨_, H', J, q⟩ := got; ⟨.non, H', J.os, J.bare, J.base, J.hok, rfl, q⟩
  | brk => exact let ⟨_, _, _, q⟩ := got; False.elim q
  | cont => exact let ⟨_, _, _, q⟩ := got; False.elim q
structure CalG (P : Program) (w : World) (K : PySem.W.Frag) (mg : Str → Option Value) (base : Heap) (k : Nat) (x : Str) (sp : Sp) : Prop where
  ex : ∃ (f : Addr) (fd : FuncData) (ps : List Str), FnG P w K mg base k f fd ps sp ∧ mg x = some (.ref f) ∧ PySem.W.keepIn K (.ref f) = true ∧ Binds K fd ps []
structure MetG (P : Program) (w : World) (K : PySem.W.Frag) (mg : Str → Option Value) (base : Heap) (k : Nat) (C : Addr) (m : Str) (sp : Sp) : Prop where
  ex : ∃ (f : Addr) (fd : FuncData) (ps : List Str), Cls K C ∧ Meth K C m f ∧ FnG P w K mg base k f fd ps sp ∧ Binds K fd ps []
section
variable {X : Cx} {k j : Nat} {f C : Addr} {fd : FuncData} {ps : List Str} {sp : Sp} {x m : Str} {p pos apos : Pos} {e o : Expr} {es : List Expr} {ta : TE} {t : TA}
theorem goesG {pins : List (Addr × Obj)} {σ : L2.St} {H : Hp} {s : Shared} {Q : VK} {us : List Value} {vs : List V} (F : FnG X.prog X.w X.K X.mg X.base k f fd ps sp) (gd : X.A.guards = some []) (room : Room k X.A) (bd : Binds X.K fd ps [])
    (I : Inv X pins σ H s) (rel : Vals vs us) (want : sp (vs ++ []) H Q C8.E0) : wpAny (model X.prog X.w) X.A (call (.ref f) us) (EP X pins σ Q) X.xe s := by
  rw [List.append_nil] at want
  have count : (us ++ []).length = ps.length := by rw [List.append_nil, ← rel.length]; exact F.many _ _ _ _ want
  have bs := bd s us I.kIn count
  rw [List.append_nil] at bs
  refine wpAny_call (codeAny_mono (F.goes X.A X.stack s H ⟨us, []⟩ us vs Q C8.E0 gd room I.env0 bs rel want) fun r t' got => ?_)
  match r, got with
  | .ok (.ret u), got => exact I.after got
theorem pe_cG (c : CalG X.prog X.w X.K X.mg X.base k x sp) (gd : X.A.guards = some []) (room : Room j X.A) (hk : k ≤ j) (hg : Gl X x) (ha : PA X (e :: es) t) (hdb : (x == ("__debug__" : Str)) = false := by decide)
    (he : starEach (e :: es) X.env = (false, eval e X.env) :: starEach es X.env := by rfl) (hpl : (backTo pos (starEach es X.env)).any (·.1) = false := by rfl) : PE X (.Call (.Name x p) (e :: es) [] pos) (tCall sp [] C8.E0 t) := by
  obtain ⟨f, fd, ps, F, named, kept, bd⟩ := c.ex
  constructor
  intro pins s σ H Q I want
  refine wpAny_Call_Name_kw (ld_glob I hg named ?_ hdb)
  refine PySem.W.callWith_K (h₀ := X.base) I.ok.mod.kin kept (thn (ha.run pos pins s σ H _ I want) ?_) he hpl
  rintro us s1 ⟨vs, H1, I1, rel, q⟩
  exact ⟨I1.kIn, goesG F gd (room.mono hk) bd I1 rel q⟩
theorem call_reprG (gd : X.A.guards = some []) (room : Room j X.A) : CallR X (.builtin "repr") (fun xs H Q => ∃ (a : Addr) (d : PyData), xs = [.ref a] ∧ Dp X.K H (.ref a) d ∧ d.showable = true ∧ d.hasDict = false ∧ d.depth ≤ 60 ∧ d.shown.length ≤ sizeLine ∧ Q (.str d.shown) H) := by
  intro pins s σ H xs us Q I rel want
  obtain ⟨a, d, rfl, hd, sh, nd, dep, sz, q⟩ := want
  obtain ⟨u, rfl, ru⟩ := vals1 rel
  obtain rfl : u = Value.ref a := ru
  obtain ⟨as, rd⟩ := Dp.reads I d (.ref a) (.ref a) hd rfl
  have un := room.un
  refine repr_of_reads' rd sh (PyData.noDict_hsm nd) gd (by omega) (fun _ _ z => z) (fun h' u tk kept => ?_) sz
  exact ⟨.str d.shown, H, I.kept kept, ⟨_, rfl⟩, q⟩
end
abbrev Done (s s' : Shared) (r : Result) : Prop := r = .ok (.ret (.bool true)) ∧ OldK s.heap s'.heap ∧ s'.os = s.os ∧ AllBare s'.gens
section
variable {P : Program} {w : World} {K : PySem.W.Frag} {mg mb : Str → Option Value} {k : Nat} {fa a : Addr} {fd : FuncData} {x : Str} {sp : Sp} {s : Shared} {vs : List Value} {ns : List Int}
theorem lawG_at {H : Hp} (KX : K.In s.heap) (hns : s.heap.Ns mainGlobals mg) (hb : s.heap.Ns builtinsNs mb) (hbb : ∀ x : Str, x ≠ "__name__" → mb x = bootBuiltins x) (lim : s.heap.NoLimit) (gens : s.gens = #[])
    (ha : s.heap.get? a = some { cls := .type "list", data := .seq vs.toArray }) (room : Room k callerA) (F : ∀ base : Heap, K.In base → base.Ns mainGlobals mg → FnG P w K mg base k fa fd [x] sp)
    (bd : ∀ (s : Shared) (u : Value), BindsTo s fd ⟨[u], []⟩ [(x, u)]) (only : Only H) (want : sp [.ref a] H (fun v _ => v = .bl true) C8.E0) (ok : HOk P w H s.heap) (at_a : ∀ b, H b ≠ none → b = a) (not_K : H a ≠ none → K.lookup a = none) :
    codeAny (model P w) callerA (.call (.ref fa) ⟨[.ref a], []⟩) (fun r s' => Done s s' r) s := by
  have free : ∀ {b : Addr}, b ≠ a → H b = none := fun {b} hn => by
    cases q : H b with
    | none => rfl
    | some u => exact absurd (at_a b (by rw [q]; simp)) hn
  have dict_free : ∀ {b : Addr} {o : Obj} {es : Array DictEntry} {ep : Nat}, s.heap.get? b = some o → o.data = .dict es ep → H b = none := fun {b o es ep} e d => free fun eq => by
    rw [eq, ha] at e
    cases e
    have d2 : Data.seq vs.toArray _ = Data.dict es ep := d
    cases d2
  have names : ∀ {b : Addr} {m : Str → Option Value}, s.heap.Ns b m → (hidT s.heap H).Ns b m := fun {b m} ⟨o, es, ep, e, d, r⟩ => ⟨o, es, ep, hidT_get e (dict_free e d), d, r⟩
  have hK : K.In (hidT s.heap H) := fun b o e => hidT_get (KX b o e) (by
    by_cases eq : b = a
    · subst eq
      cases q : H b with
      | none => rfl
      | some u => rw [not_K (by rw [q]; simp)] at e; cases e
    · exact free eq)
  have md : Mod K mg (hidT s.heap H) := by
    obtain ⟨mc, c1, c2⟩ := lim
    exact ⟨hK, names hns, ⟨mb, names hb, hbb⟩, mc, names c1, c2⟩
  have e0 : Env0 P w K mg (hidT s.heap H) callerA [] s H := ⟨rfl, md, fun _ _ e => of_hidT e, Nat.le_of_eq (hidT_size _ _), trivial, fun _ hm => absurd hm (List.not_mem_nil), ok, .of_eq gens⟩
  refine codeAny_mono ((F _ hK (names hns)).goes callerA [] s H ⟨[.ref a], []⟩ [.ref a] [.ref a] _ _ rfl room e0 (bd s (.ref a)) (.cons rfl .nil) want) fun r t got => ?_
  match r, got with
  | .ok (.ret u), got =>
    obtain ⟨v, H2, os, bare, un, ok2, rel, is_true⟩ := got
    obtain rfl : v = V.bl true := is_true
    obtain rfl : u = Value.bool true := rel
    refine ⟨rfl, OldK.of_keep fun b o e => ?_, os, bare⟩
    rcases only b with none_ | ⟨ob, xs, frozen⟩
    · exact un.keep b o e none_ (fun z => absurd z List.not_mem_nil) (by simp)
    · obtain ⟨e1, _⟩ := ok b _ frozen
      obtain ⟨e2, _⟩ := ok2 b _ (un.frzs b ob _ frozen)
      rw [e] at e1
      cases e1
      exact e2
theorem lawG_call (KX : K.In s.heap) (hns : s.heap.Ns mainGlobals mg) (hb : s.heap.Ns builtinsNs mb) (hbb : ∀ x : Str, x ≠ "__name__" → mb x = bootBuiltins x) (lim : s.heap.NoLimit) (gens : s.gens = #[])
    (ha : s.heap.get? a = some { cls := .type "list", data := .seq vs.toArray }) (hi : IntsAre vs ns) (hl : ns.length ≤ sizeLine) (room : Room k callerA) (F : ∀ base : Heap, K.In base → base.Ns mainGlobals mg → FnG P w K mg base k fa fd [x] sp)
    (bd : ∀ (s : Shared) (u : Value), BindsTo s fd ⟨[u], []⟩ [(x, u)]) (want : ∀ H : Hp, Only H → SqL K H a (ns.map V.int) → sp [.ref a] H (fun v _ => v = .bl true) C8.E0) :
    codeAny (model P w) callerA (.call (.ref fa) ⟨[.ref a], []⟩) (fun r s' => Done s s' r) s := by
  have rel := vals_ints hi
  cases own : K.lookup a with
  | some o =>
    have e := KX a o own
    rw [ha] at e
    cases e
    have only : Only (fun _ => none : Hp) := fun _ => .inl rfl
    have sq : SqL K (fun _ => none) a (ns.map V.int) := .inr ⟨_, vs.toArray, _, own, rfl, rfl, rfl, by rw [List.size_toArray, hi.length]; exact hl, by simpa using rel⟩
    refine lawG_at KX hns hb hbb lim gens ha room F bd only (want _ only sq) ?_ (fun b z => absurd rfl z) fun z => absurd rfl z
    intro b u z
    have z2 : (none : Option HO) = some u := z
    cases z2
  | none =>
    let one : HO := .frz { cls := .type "list", data := .seq vs.toArray } (.lst (ns.map V.int))
    let H : Hp := fun b => if b = a then some one else none
    have here : H a = some one := if_pos rfl
    have else_ : ∀ {b : Addr}, b ≠ a → H b = none := fun hn => if_neg hn
    have only : Only H := fun b => by
      by_cases e : b = a
      · exact .inr ⟨_, _, by rw [e]; exact here⟩
      · exact .inl (else_ e)
    refine lawG_at KX hns hb hbb lim gens ha room F bd only (want H only (.inl (.inr ⟨_, here⟩))) (fun b u z => ?_) (fun b z => ?_) fun _ => own
    · by_cases e : b = a
      · subst e
        rw [here] at z
        cases z
        exact ⟨ha, by rw [List.length_map]; exact hl, vs, _, rel, ha⟩
      · rw [else_ e] at z
        cases z
    · by_cases e : b = a
      · exact e
      · exact absurd (else_ e) z
end
theorem walkG {l : PySem.W.OpenLaw} {n k : Nat} {q : Program} {loose : List Str} {XP : (Str → Option Value) → Heap → Prop} {YP : World → Heap → Prop} {d : DefRec} {K : Params → PySem.W.Frag} {sp : PySem.W.Frag → Sp} {x : Str} (hn : l.most = some n) (hn2 : n ≤ sizeLine)
    (hdf : d.params.defaults = []) (room : Room k callerA) (hY : ∀ (w : World) (h : Heap), YP w h → (K w.params).In h)
    (F : ∀ (w : World) (mg : Str → Option Value) (fa : Addr) (h : Heap), (K w.params).In h → h.Ns mainGlobals mg → mg d.name = some (.ref fa) →
      ∃ fd : FuncData, (∀ (s : Shared) (u : Value), BindsTo s fd ⟨[u], []⟩ [(x, u)]) ∧ ∀ base : Heap, (K w.params).In base → base.Ns mainGlobals mg → FnG l.prog w (K w.params) mg base k fa fd [x] (sp (K w.params)))
    (want : ∀ (K : PySem.W.Frag) (H : Hp) (a : Addr) (ns : List Int), ns.length ≤ n → Only H → SqL K H a (ns.map V.int) → sp K [.ref a] H (fun v _ => v = .bl true) C8.E0) : PySem.W.WalkO q loose XP YP l.row.toRowW d [] (fun f vs => PySem.call f vs) := by
  refine Att.attach_call hn hdf ?_
  intro w s0 s1 mg mb fa o pm cd doc a vs ns G Y _ _ _ named list_ nums few gens
  have KX := hY w _ Y
  obtain ⟨fd, bd, F1⟩ := F w mg fa _ KX G.T.g named
  exact lawG_call KX G.T.g G.T.b G.T.builtins G.T.nolimit gens list_ nums (Nat.le_trans few hn2) room F1 bd fun H only sq => want _ H a ns few only sq
end LX
set_option maxHeartbeats 2000000
namespace LX
open PySem PySem.Spec PyProof.Rows L2 C8 SX
section
variable {prog : Program} {w : World} {A : Around} {E : Value → Shared → Prop} {s : Shared} {z TI TO i1 i2 : Addr} {fp1 fp2 : List Addr} {n1 n2 i : Nat} {P1 P2 : Nat → Value → Prop} {St1 St2 : Nat → Heap → Prop}
theorem zipD2_item_held {T : Addr} {f : Bool} {oT : Obj} {Q : Value → Shared → Prop} (S : ZipSep2 z TI TO i1 i2 fp1 fp2) (D1 : Draws prog w A i1 fp1 n1 P1 St1) (D2 : Draws prog w A i2 fp2 n2 P2 St2)
    (hz : IsZipHeld s.heap z TI TO T f) (hT : s.heap.get? T = some oT) (hTI : IsTupOf2 s.heap TI (.ref i1) (.ref i2)) (st1 : St1 i s.heap) (st2 : St2 i s.heap) (hlt1 : i < n1) (hlt2 : i < n2)
    (hQ : ∀ x1 x2 h' tk, P1 i x1 → P2 i x2 → IsZipHeld h' z TI TO T true → St1 (i + 1) h' → St2 (i + 1) h' → IsTupOf2 h' s.heap.objs.size x1 x2 → h'.objs.size = s.heap.objs.size + 1 →
      (∀ c o, c ≠ z → c ≠ i1 → c ≠ i2 → s.heap.get? c = some o → h'.get? c = some o) → Q (.ref s.heap.objs.size) { s with heap := h', toks := tk }) :
    wpAny (model prog w) A (Builtin.«zip.__next__» ⟨[.ref z], []⟩) (fun fin s' => ∃ v, fin = .done (.ret v) ∧ Q v s') E s := by
  show wpAny _ _ (field (.ref z) 2 >>= _) _ _ _
  refine wpAny_bind (wpAny_field hz rfl (x := .bool false) rfl ?_)
  show wpAny _ _ (field (.ref z) 3 >>= _) _ _ _
  refine wpAny_bind (wpAny_field hz rfl (x := .ref TI) rfl ?_)
  refine wpAny_bind (wpAny_seqItems hTI rfl ?_)
  show wpAny _ _ (Builtin.SmallTypes.ownedTupleIsFree (.ref z) >>= _) _ _ _
  refine wpAny_bind (wpAny_tupleHeld_zip hz hT fun h₁ hz₁ hs₁ => ?_)
  simp only [Bool.false_eq_true, if_false]
  refine wpAny_bind ?_
  rw [← Array.forIn_toList]
  simp only [List.forIn_cons, List.forIn_nil]
  refine wpAny_bind (wpAny_bind (wpAny_holding ?_))
  show wpAny _ _ (Builtin.SmallTypes.nextOf (.ref i1) >>= _) _ _ _
  refine wpAny_bind (D1.item i _ _ _ hlt1 (D1.over st1 hs₁ S.zf1) fun x1 h₂ tk₁ p1 h1₂ hs₂ => wpAny_pure ?_)
  refine wpAny_pure ?_
  refine wpAny_bind (wpAny_bind (wpAny_holding ?_))
  show wpAny _ _ (Builtin.SmallTypes.nextOf (.ref i2) >>= _) _ _ _
  refine wpAny_bind (D2.item i _ _ _ hlt2 (D2.over (D2.over st2 hs₁ S.zf2) hs₂ S.sep1_2) fun x2 h₃ tk₂ p2 h2₃ hs₃ => wpAny_pure ?_)
  refine wpAny_pure (wpAny_pure ?_)
  show wpAny _ _ (newTuple [x1, x2] >>= _) _ _ _
  refine wpAny_bind (wpAny_newTuple ?_)
  have hsz : h₃.objs.size = s.heap.objs.size := by rw [hs₃.1, hs₂.1, hs₁.1]
  have hz₃ : IsZipHeld h₃ z TI TO T true := hs₃.extBut _ _ S.zi2 (hs₂.extBut _ _ S.zi1 hz₁)
  have hk : ∀ c o, c ≠ z → c ≠ i1 → c ≠ i2 → s.heap.get? c = some o → h₃.get? c = some o := fun c o c1 c2 c3 e => hs₃.extBut _ _ c3 (hs₂.extBut _ _ c2 (hs₁.extBut _ _ c1 e))
  have h1₃ : St1 (i + 1) h₃ := D1.over h1₂ hs₃ S.sep2_1
  refine wpAny_pure ⟨_, rfl, ?_⟩
  show Q (.ref h₃.objs.size) _
  have hp : IsTupOf2 (h₃.push { cls := .type "tuple", data := .seq #[x1, x2] }) h₃.objs.size x1 x2 := Heap.get?_push_size _ rfl
  have hz4 : (h₃.push { cls := .type "tuple", data := .seq #[x1, x2] }).objs.size = h₃.objs.size + 1 := Heap.size_push ..
  rw [hsz] at hp hz4 ⊢
  exact hQ x1 x2 _ tk₂ p1 p2 (Heap.get?_push_of_some _ hz₃) (D1.frame _ _ _ h1₃ fun b _ o e => Heap.get?_push_of_some _ e) (D2.frame _ _ _ h2₃ fun b _ o e => Heap.get?_push_of_some _ e) hp hz4 fun c o c1 c2 c3 e => Heap.get?_push_of_some _ (hk c o c1 c2 c3 e)
theorem zipD2_end_held {T : Addr} {f : Bool} {oT : Obj} {Q : Fin → Shared → Prop} (S : ZipSep2 z TI TO i1 i2 fp1 fp2) (D1 : Draws prog w A i1 fp1 n1 P1 St1) (D2 : Draws prog w A i2 fp2 n1 P2 St2)
    (hz : IsZipHeld s.heap z TI TO T f) (hT : s.heap.get? T = some oT) (hTI : IsTupOf2 s.heap TI (.ref i1) (.ref i2)) (st1 : St1 n1 s.heap)
    (hE : ∀ h' e, (∀ c o, c ≠ z → c ≠ i1 → c ≠ i2 → s.heap.get? c = some o → h'.get? c = some o) → (∃ o, h'.get? e = some o ∧ o.cls = .type "StopIteration") → E (.ref e) { s with heap := h' }) :
    wpAny (model prog w) A (Builtin.«zip.__next__» ⟨[.ref z], []⟩) Q E s := by
  show wpAny _ _ (field (.ref z) 2 >>= _) _ _ _
  refine wpAny_bind (wpAny_field hz rfl (x := .bool false) rfl ?_)
  show wpAny _ _ (field (.ref z) 3 >>= _) _ _ _
  refine wpAny_bind (wpAny_field hz rfl (x := .ref TI) rfl ?_)
  refine wpAny_bind (wpAny_seqItems hTI rfl ?_)
  show wpAny _ _ (Builtin.SmallTypes.ownedTupleIsFree (.ref z) >>= _) _ _ _
  refine wpAny_bind (wpAny_tupleHeld_zip hz hT fun h₁ hz₁ hs₁ => ?_)
  simp only [Bool.false_eq_true, if_false]
  refine wpAny_bind ?_
  rw [← Array.forIn_toList]
  simp only [List.forIn_cons, List.forIn_nil]
  refine wpAny_bind (wpAny_bind (wpAny_holding ?_))
  show wpAny _ _ (Builtin.SmallTypes.nextOf (.ref i1) >>= _) _ _ _
  refine wpAny_bind (D1.done _ _ _ (D1.over st1 hs₁ S.zf1) fun h₂ e hs₂ he => ?_)
  exact hE h₂ e (fun c o c1 c2 _ x => hs₂ _ _ c2 (hs₁.extBut _ _ c1 x)) he
theorem pyNext_zipD2_item_held {T : Addr} {f : Bool} {oT : Obj} {Q : Option Value → Shared → Prop} (S : ZipSep2 z TI TO i1 i2 fp1 fp2) (D1 : Draws prog w A.in1 i1 fp1 n1 P1 St1) (D2 : Draws prog w A.in1 i2 fp2 n2 P2 St2)
    (hz : IsZipHeld s.heap z TI TO T f) (hT : s.heap.get? T = some oT) (hTI : IsTupOf2 s.heap TI (.ref i1) (.ref i2)) (st1 : St1 i s.heap) (st2 : St2 i s.heap) (hlt1 : i < n1) (hlt2 : i < n2)
    (hQ : ∀ x1 x2 h' tk, P1 i x1 → P2 i x2 → IsZipHeld h' z TI TO T true → St1 (i + 1) h' → St2 (i + 1) h' → IsTupOf2 h' s.heap.objs.size x1 x2 → h'.objs.size = s.heap.objs.size + 1 →
      (∀ c o, c ≠ z → c ≠ i1 → c ≠ i2 → s.heap.get? c = some o → h'.get? c = some o) → Q (some (.ref s.heap.objs.size)) { s with heap := h', toks := tk }) :
    wpAny (model prog w) A (pyNext (.ref z)) Q E s := by
  have hTy : s.TypeIs (.ref z) "zip" := ⟨_, hz, rfl⟩
  unfold pyNext
  exact wpAny_bind (wpAny_attempt (wpAny_callSpecial?_slot (name := Str.ofString "__next__") hTy F.slot_zip_next
    (wpAny_call_entry F.slot_zip_next hTy F.entry_zip_next
      (zipD2_item_held S D1 D2 hz hT hTI st1 st2 hlt1 hlt2 fun x1 x2 h' tk y1 y2 a1 a3 a4 a5 a6 a7 => wpAny_pure (hQ x1 x2 h' tk y1 y2 a1 a3 a4 a5 a6 a7)) (F.args_zip_next_1 _))))
theorem pyNext_zipD2_end_held {T : Addr} {f : Bool} {oT : Obj} {Q : Option Value → Shared → Prop} (S : ZipSep2 z TI TO i1 i2 fp1 fp2) (D1 : Draws prog w A.in1 i1 fp1 n1 P1 St1) (D2 : Draws prog w A.in1 i2 fp2 n1 P2 St2)
    (hz : IsZipHeld s.heap z TI TO T f) (hT : s.heap.get? T = some oT) (hTI : IsTupOf2 s.heap TI (.ref i1) (.ref i2)) (st1 : St1 n1 s.heap)
    (hQ : ∀ h', (∀ c o, c ≠ z → c ≠ i1 → c ≠ i2 → s.heap.get? c = some o → h'.get? c = some o) → Q none { s with heap := h' }) : wpAny (model prog w) A (pyNext (.ref z)) Q E s := by
  have hTy : s.TypeIs (.ref z) "zip" := ⟨_, hz, rfl⟩
  unfold pyNext
  refine wpAny_bind (wpAny_attempt (wpAny_callSpecial?_slot (name := Str.ofString "__next__") hTy F.slot_zip_next
    (wpAny_call_entry F.slot_zip_next hTy F.entry_zip_next (zipD2_end_held S D1 D2 hz hT hTI st1 fun h' e hk he => ?_) (F.args_zip_next_1 _))))
  obtain ⟨o, ho, hc⟩ := he
  refine wpAny_bind (wpAny_isInstance (T := "StopIteration") (b := true) ⟨o, ho, hc⟩ isSubtype_stop ?_)
  exact wpAny_pure (hQ _ hk)
theorem pairArg_zipD2 (S : ZipSep2 z TI TO i1 i2 fp1 fp2) (D1 : ∀ A : Around, A.handled = none → Draws prog w A i1 fp1 n1 P1 St1) (D2 : ∀ A : Around, A.handled = none → Draws prog w A i2 fp2 n1 P2 St2) :
    PairArg prog w "zip" z (z :: TI :: TO :: (fp1 ++ fp2)) [z, TO, i1, i2] n1 (fun i k v => P1 i k ∧ P2 i v)
      (fun h => IsZip h z TI TO .none ∧ IsTupOf2 h TI (.ref i1) (.ref i2) ∧ (∃ a b, IsTupOf2 h TO a b) ∧ St1 0 h ∧ St2 0 h ∧ ∀ b ∈ fp1 ++ fp2, ∃ o, h.get? b = some o) where
  type := fun s ok => ⟨_, ok.1, rfl⟩
  notDict := by decide
  keep := fun h h' ok hk => by
    obtain ⟨hz, hTI, ⟨a, b, hTO⟩, h1, h2, ex⟩ := ok
    exact ⟨hk _ _ hz, hk _ _ hTI, ⟨a, b, hk _ _ hTO⟩, (D1 callerA rfl).frame _ _ _ h1 fun b _ o e => hk b o e, (D2 callerA rfl).frame _ _ _ h2 fun b _ o e => hk b o e, fun b hb => let ⟨o, e⟩ := ex b hb; ⟨o, hk _ _ e⟩⟩
  there := fun h ok b hb => by
    obtain ⟨hz, hTI, ⟨a, c, hTO⟩, _, _, ex⟩ := ok
    rcases List.mem_cons.mp hb with rfl | hb
    · exact ⟨_, hz⟩
    rcases List.mem_cons.mp hb with rfl | hb
    · exact ⟨_, hTI⟩
    rcases List.mem_cons.mp hb with rfl | hb
    · exact ⟨_, hTO⟩
    exact ex b hb
  sub := fun b hb => by
    have e : b = z ∨ b = TO ∨ b = i1 ∨ b = i2 := by simpa using hb
    rcases e with rfl | rfl | rfl | rfl
    · simp
    · simp
    · have := S.mem1; simp [this]
    · have := S.mem2; simp [this]
  noKeys := fun A s Q E hA ok h => getAttrOr_miss_zip ok.1 rfl rfl rfl zip_no_keys (by decide +kernel) hA h
  iter := fun A s d Q E hA ok hd hdf h => by
    obtain ⟨hz, hTI, ⟨a, b, hTO⟩, h1, h2, _⟩ := ok
    have dz : d ≠ z := fun e => hdf (by simp [e])
    have dTI : d ≠ TI := fun e => hdf (by simp [e])
    have dTO : d ≠ TO := fun e => hdf (by simp [e])
    have df1 : ∀ b ∈ fp1, b ≠ d := fun b hb e => hdf (by subst e; simp [hb])
    have df2 : ∀ b ∈ fp2, b ≠ d := fun b hb e => hdf (by subst e; simp [hb])
    have dI1 := (df1 _ S.mem1).symm
    have dI2 := (df2 _ S.mem2).symm
    refine wpAny_pyIter_zip hz (h z [z, TO, i1, i2] (fun i h => IsTupOf2 h TI (.ref i1) (.ref i2) ∧ St1 i h ∧ St2 i h ∧
      ((IsZip h z TI TO .none ∧ ∃ a b, IsTupOf2 h TO a b) ∨ ∃ T f oT, IsZipHeld h z TI TO T f ∧ h.get? T = some oT ∧ T ≠ z ∧ T ≠ i1 ∧ T ≠ i2 ∧ T ≠ d)) s.heap s.toks ?_
      ⟨hTI, h1, h2, .inl ⟨hz, a, b, hTO⟩⟩ (fun _ _ e => e) fun b hb => .inl hb)
    exact {
      off := fun hm => by
        have e : d = z ∨ d = TO ∨ d = i1 ∨ d = i2 := by simpa using hm
        rcases e with e | e | e | e
        · exact dz e
        · exact dTO e
        · exact dI1 e
        · exact dI2 e
      frame := fun i h₁ h₂ st hk => by
        obtain ⟨hTI, h1, h2, hz⟩ := st
        refine ⟨hk _ _ (Ne.symm dTI) hTI, (D1 A hA).frame _ _ _ h1 fun b hb o e => hk b o (df1 b hb) e, (D2 A hA).frame _ _ _ h2 fun b hb o e => hk b o (df2 b hb) e, ?_⟩
        rcases hz with ⟨hz, a, b, hTO⟩ | ⟨T, f, oT, hz, hT, r1, r2, r3, r4⟩
        · exact .inl ⟨hk _ _ (Ne.symm dz) hz, a, b, hk _ _ (Ne.symm dTO) hTO⟩
        · exact .inr ⟨T, f, oT, hk _ _ (Ne.symm dz) hz, hk _ _ r4 hT, r1, r2, r3, r4⟩
      item := fun i s₁ Q₁ E₁ hi st hds hQ => by
        obtain ⟨hTI, h1, h2, hz⟩ := st
        have lt : ∀ {c o}, s₁.heap.get? c = some o → s₁.heap.objs.size ≠ c := fun e => Nat.ne_of_gt (Heap.lt_size e)
        have n1' : s₁.heap.objs.size ≠ i1 := let ⟨_, e⟩ := (D1 A hA).live _ _ h1; lt e
        have n2' : s₁.heap.objs.size ≠ i2 := let ⟨_, e⟩ := (D2 A hA).live _ _ h2; lt e
        rcases hz with ⟨hz, a, b, hTO⟩ | ⟨T, f, oT, hz, hT, r1, r2, r3, r4⟩
        · refine wpAny_pyNext_zipD2_item S (D1 A.in1 hA) (D2 A.in1 hA) hz hTI hTO h1 h2 hi hi fun x1 x2 h' tk p1 p2 a1 a2 a3 a4 a5 a6 hk => ?_
          exact hQ s₁.heap.objs.size _ _ h' tk ⟨p1, p2⟩ (.inl ⟨_, a5, rfl, _, rfl⟩)
            ⟨hk _ _ S.TIz S.TITO S.TIi1 S.TIi2 hTI, a3, a4, .inr ⟨s₁.heap.objs.size, false, _, a1, a5, lt hz, n1', n2', Nat.ne_of_gt hds⟩⟩
            fun c o hc e => hk c o (fun x => hc (by simp [x])) (fun x => hc (by simp [x])) (fun x => hc (by simp [x])) (fun x => hc (by simp [x])) e
        · refine pyNext_zipD2_item_held S (D1 A.in1 hA) (D2 A.in1 hA) hz hT hTI h1 h2 hi hi fun x1 x2 h' tk p1 p2 a1 a3 a4 a5 a6 hk => ?_
          exact hQ s₁.heap.objs.size _ _ h' tk ⟨p1, p2⟩ (.inl ⟨_, a5, rfl, _, rfl⟩)
            ⟨hk _ _ S.TIz S.TIi1 S.TIi2 hTI, a3, a4, .inr ⟨T, true, oT, a1, hk _ _ r1 r2 r3 hT, r1, r2, r3, r4⟩⟩
            fun c o hc e => hk c o (fun x => hc (by simp [x])) (fun x => hc (by simp [x])) (fun x => hc (by simp [x])) e
      done := fun s₁ Q₁ E₁ st hQ => by
        obtain ⟨hTI, h1, h2, hz⟩ := st
        rcases hz with ⟨hz, a, b, hTO⟩ | ⟨T, f, oT, hz, hT, r1, r2, r3, r4⟩
        · exact wpAny_pyNext_zipD2_end S (D1 A.in1 hA) (D2 A.in1 hA) hz hTI hTO h1 h2 (Nat.le_refl _) (Nat.le_refl _) (.inl rfl) fun h' tk hk => hQ h' tk
            fun c o hc e => hk c o (fun x => hc (by simp [x])) (fun x => hc (by simp [x])) (fun x => hc (by simp [x])) (fun x => hc (by simp [x])) e
        · exact pyNext_zipD2_end_held S (D1 A.in1 hA) (D2 A.in1 hA) hz hT hTI h1 fun h' hk => hQ h' s₁.toks
            fun c o hc e => hk c o (fun x => hc (by simp [x])) (fun x => hc (by simp [x])) (fun x => hc (by simp [x])) e }
end
theorem zip_map_get {α β γ : Type} (f : α → β → γ) : ∀ (l : List α) (m : List β) (i : Nat), ((l.zip m).map fun p => f p.1 p.2)[i]? = (l[i]?.bind fun a => m[i]?.map fun b => f a b)
  | [], _, i => by simp
  | a :: l, [], i => by cases h : (a :: l)[i]? <;> simp
  | a :: l, b :: m, 0 => rfl
  | a :: l, b :: m, i + 1 => by simpa using zip_map_get f l m i
theorem paired_zip {l : List Nat} : ∀ {ys : List V} {its : List Value}, Vals ys its → KV ((l.zip ys).map fun p => (tk [p.1], p.2)) ((l.zip its).map fun p => (tk [p.1], p.2)) := by
  induction l with
  | nil => intro ys its _; exact .nil
  | cons c l ih =>
    intro ys its r
    cases r with
    | nil => exact .nil
    | cons h t => exact .cons ⟨rfl, h⟩ (ih t)
def tDictZip (K : PySem.W.Frag) (ta : TA) : TE := fun σ H Q => ta σ H fun vs H1 => ∃ (l : List Nat) (b : Addr) (ys : List V), vs = [.str (S l), .ref b] ∧ SqT K H1 b ys ∧ ys.length = l.length ∧ l.length ≤ 1000 ∧
  ∀ p, H1 p = none → Q (.ref p) (upd H1 p (.dK (mergeK [] ((l.zip ys).map fun p => (tk [p.1], p.2)))))
theorem pe_dictZip {X : Cx} {e e2 : Expr} {ta : TA} {p p2 pos pos2 : Pos} (hc : X.calm = true) (hgd : Gl X "dict") (hmd : X.mg "dict" = none) (hg : Gl X "zip") (hm : X.mg "zip" = none) (ha : PA X [e, e2] ta)
    (hs : starEach [e, e2] X.env = (false, eval e X.env) :: starEach [e2] X.env := by rfl) (hpl : (backTo pos2 (starEach [e2] X.env)).any (·.1) = false := by rfl)
    (hs' : starEach [.Call (.Name "zip" p2) [e, e2] [] pos2] X.env = (false, eval (.Call (.Name "zip" p2) [e, e2] [] pos2) X.env) :: starEach [] X.env := by rfl) (hpl' : (backTo pos (starEach [] X.env)).any (·.1) = false := by rfl) :
    PE X (.Call (.Name "dict" p) [.Call (.Name "zip" p2) [e, e2] [] pos2] [] pos) (tDictZip X.K ta) := by
  refine ⟨fun pins s σ H Q I h => ?_⟩
  refine Call_ (ld_blt I hgd hmd PyProof.Rows.boot_dict (PyProof.Rows.callWith_type1 (Q := EP X pins σ Q) ?_ hs' hpl'))
  rw [hs']
  refine PySem.Calls.spliced_cons ?_
  refine Call_ (ld_blt I hg hm PyProof.Rows.boot_zip (PyProof.Rows.callWith_type1 (thn (ha.run pos2 pins s σ H _ I h) fun us s1 ⟨vs, H1, I1, r1, q1⟩ => ?_) hs hpl))
  obtain ⟨l, b, ys, ex, hb, hl, hz, q⟩ := q1
  subst ex
  obtain ⟨u, u', rfl, r, r'⟩ := vals2 r1
  obtain ⟨t, rfl⟩ := (show ∃ t, u = Value.str (S l) t from r)
  obtain rfl : u' = Value.ref b := r'
  obtain ⟨its, rv, ht, _⟩ := I1.tuple hb
  have hlen : its.toArray.size = (S l).cps.size := by rw [List.size_toArray, ← rv.length, hl]; simp [S]
  have hbl : b < s1.heap.objs.size := ht.lt
  refine zip_begins2 (begins_text (S l) t) (begins_tuple b its.toArray) trivial ht fun h' hz' hTI hTO h1 h2 hsz hk => ?_
  refine PySem.Calls.spliced_nil ?_
  have I2 : Inv X pins σ H1 { s1 with heap := h' } := I1.kept (t' := s1.toks) hk
  have f2 : ∀ a ∈ [b], a < s1.heap.objs.size := fun a h => by rw [List.mem_singleton.mp h]; exact hbl
  have S2 := PySem.zip_sep2 (N := s1.heap.objs.size) (fp1 := []) (fp2 := [b]) (fun _ h => nomatch h) f2
  have P := pairArg_zipD2 (prog := X.prog) (w := X.w) S2 (fun A hh => Draws.text hh s1.heap.objs.size (S l) t)
    (fun A hh => hlen ▸ Draws.tuple hh (s1.heap.objs.size + 1) b (Nat.ne_of_lt (Nat.lt_succ_of_lt hbl)) its.toArray)
  have ht2 : h'.IsTuple b its.toArray := (show s1.heap.IsTuple b its.toArray from ht).at fun o e => hk _ _ e
  have hn : H1 h'.objs.size = none := I2.hok.fresh (Nat.le_refl _)
  have hl2 : its.length = l.length := by rw [← rv.length, hl]
  refine PySem.call_dict_pairs (knd := mixKind X.prog X.w) (kvs := (l.zip its).map fun p => (tk [p.1], p.2)) P (I1.ok.hd hc) ?_ ⟨?_, ?_⟩ ?_ fun h3 tk3 hd3 hk3 => ?_
  · refine ⟨hz', hTI, ⟨_, _, hTO⟩, ⟨_, h1, rfl, rfl⟩, ⟨⟨_, h2, rfl, rfl⟩, ht2⟩, fun a ha => ?_⟩
    have e : a = s1.heap.objs.size ∨ a = s1.heap.objs.size + 1 ∨ a = b := by simpa using ha
    rcases e with rfl | rfl | rfl
    · exact ⟨_, h1⟩
    · exact ⟨_, h2⟩
    · obtain ⟨o, e, _⟩ := ht2; exact ⟨o, e⟩
  · rw [List.length_map, List.length_zip, hl2, Nat.min_self]; simp [S]
  · rintro i key v ⟨⟨c, u, hc', rfl⟩, hv⟩
    have hc2 : l[i]? = some c := by simpa [S] using hc'
    have hv2 : its[i]? = some v := by simpa using hv
    refine ⟨tk [c], ?_, kV_is (P := X.prog) (w := X.w) (k := tk [c]) ⟨u, rfl⟩⟩
    rw [zip_map_get (fun a b => (tk [a], b)), hc2, hv2]; rfl
  · simp [S]; exact Nat.le_trans hz (by decide)
  · have kvr : KV ((l.zip ys).map fun p => (tk [p.1], p.2)) ((l.zip its).map fun p => (tk [p.1], p.2)) := paired_zip rv
    have hm' : (h'.objs.size == sysModules) = false := beq_eq_false_iff_ne.mpr (Nat.ne_of_gt I2.big)
    have hlen2 : (mergeK [] ((l.zip ys).map fun p => (tk [p.1], p.2))).length ≤ sizeLine := by
      refine Nat.le_trans (length_mergeK _ []) ?_
      rw [List.length_nil, Nat.zero_add, List.length_map, List.length_zip, hl, Nat.min_self]
      exact Nat.le_trans hz (by decide)
    have keep3 : ∀ c o, s1.heap.get? c = some o → h3.get? c = some o := fun c o e => hk3 c o (fun hm => by
      have hlt : c < s1.heap.objs.size := Heap.lt_size e
      have e' : c = s1.heap.objs.size + 4 ∨ c = s1.heap.objs.size + 3 ∨ c = s1.heap.objs.size ∨ c = s1.heap.objs.size + 1 := by simpa using hm
      have hle : s1.heap.objs.size ≤ c := by
        rcases e' with z | z | z | z
        · rw [z]; exact Nat.le_add_right _ _
        · rw [z]; exact Nat.le_add_right _ _
        · rw [z]; exact Nat.le_refl _
        · rw [z]; exact Nat.le_add_right _ _
      exact Nat.lt_irrefl _ (Nat.lt_of_lt_of_le hlt hle)) (hk _ _ e)
    have hsz5 : s1.heap.objs.size ≤ h'.objs.size := by rw [hsz]; omega
    exact ⟨.ref h'.objs.size, upd H1 h'.objs.size (.dK (mergeK [] ((l.zip ys).map fun p => (tk [p.1], p.2)))), I1.laid (t' := tk3) keep3 hsz5 (show ObjOk X.prog X.w _ _ _ (.dK _) from ⟨hlen2, hm', merged [] _, KV.merge kvr .nil, hd3⟩), rfl, q _ hn⟩
end LX
set_option maxHeartbeats 2000000
namespace LX
open PySem PySem.Spec PyProof.Rows L2 C8 SX
theorem meets_enum1 {v : Value} {o : Obj} {H : Heap → Prop} (B : Begins v o H) :
    Meets (Builtin.«enumerate.__new__» ⟨[.type "enumerate", v], []⟩) (fun _ R s => H s.heap ∧
      R (.ok (.ret (.ref (s.heap.push o).objs.size))) { s with heap := (s.heap.push o).push { cls := .type "enumerate", data := .fields #[.none, .bool false, .ref s.heap.objs.size, rawInt 0, .none, .none] } }) :=
  .of_wp fun prog w A R s h => by
    obtain ⟨hp, g, d, tk, os⟩ := s; obtain ⟨h1, h⟩ := h
    have hsub := sub_enumerate
    have q1 : ∀ {A' : Around} {E : Value → Shared → Prop} {Q : Value → Shared → Prop}, Q (.ref hp.objs.size) ⟨hp.push o, g, d, tk, os⟩ → wpAny (model prog w) A' (pyIter v) Q E ⟨hp, g, d, tk, os⟩ :=
      fun q => B.iter prog w _ _ ⟨hp, g, d, tk, os⟩ _ h1 q
    wp_walk using q1
    refine wpAny_stack_any fun st => wpAny_pure ?_
    split
    · rename_i c _ _ _ _ _
      cases (c == Value.type "enumerate")
      · wp_walk using q1
        exact ⟨_, rfl, h⟩
      · wp_walk using q1
        exact ⟨_, rfl, h⟩
    · wp_walk using q1
      exact ⟨_, rfl, h⟩
theorem enum1_begins {prog : Program} {w : World} {A : Around} {E : Value → Shared → Prop} {s : Shared} {v : Value} {o : Obj} {H : Heap → Prop} {Q : Value → Shared → Prop} (B : Begins v o H) (h1 : H s.heap)
    (h : ∀ h', IsEnum h' (s.heap.objs.size + 1) s.heap.objs.size 0 .none → h'.get? s.heap.objs.size = some o → h'.objs.size = s.heap.objs.size + 2 →
      (∀ b o, s.heap.get? b = some o → h'.get? b = some o) → Q (.ref (s.heap.objs.size + 1)) { s with heap := h' }) :
    wpAny (model prog w) A (call (.type "enumerate") [v]) Q E s := by
  refine callType_new F.called_enumerate (by decide) (F.typeCall_enumerate_1 _) (F.newCall_enumerate_1 _) (fun obj => F.args_object_init_2 obj _) F.entry_enumerate_new
    (meets_enum1 B) ⟨h1, ?_⟩
  have hz : (s.heap.push o).objs.size = s.heap.objs.size + 1 := Heap.size_push ..
  show _ ∧ _
  rw [hz]
  have he : IsEnum ((s.heap.push o).push { cls := .type "enumerate", data := .fields #[.none, .bool false, .ref s.heap.objs.size, rawInt 0, .none, .none] }) (s.heap.objs.size + 1) s.heap.objs.size 0 .none := by
    have := Heap.get?_push_size (s.heap.push o) (o := { cls := .type "enumerate", data := .fields #[.none, .bool false, .ref s.heap.objs.size, rawInt 0, .none, .none] }) rfl
    rw [hz] at this; exact this
  refine ⟨⟨_, he, rfl⟩, h _ he (Heap.get?_push_of_some _ (Heap.get?_push_size _ B.free)) (by rw [Heap.size_push, hz]) fun b o x => Heap.get?_push_of_some _ (Heap.get?_push_of_some _ x)⟩
def IteX (K : PySem.W.Frag) (S : Sr) : It :=
  ⟨fun i H => S.has K i H, fun i H v H' => ∃ T x, v = .ref T ∧ H T = none ∧ H' = upd H T (.tup [.int (i : Nat), x]) ∧ S.val K i H x, fun i H => S.upto K i H ∧ S.ends K i H⟩
theorem turn_enumX {P : Program} {w : World} {K : PySem.W.Frag} {elts : List Expr} {kk : Nat} {tpos : Pos} {e it : Addr} (S : Sr) (n1 : ∀ a ∈ S.fp, a ≠ it) (ne : e ≠ it) (nf : e ∉ S.fp) :
    Turn P w K (.Tuple elts kk tpos) (IteX K S) [e, it] e (fun i h => (∃ old, IsEnum h e it ((i : Nat) : Int) old) ∧ S.tn it i h) where
  mem := by simp
  obj := fun i h st b hb => by
    obtain ⟨⟨old, he⟩, h1⟩ := st
    have e' : b = e ∨ b = it := by simpa using hb
    rcases e' with z | z
    · rw [z]; exact ⟨_, he, fun v q => nomatch q⟩
    · rw [z]; exact Sr.tn_obj h1
  keep := fun i h h' st k => let ⟨⟨old, he⟩, h1⟩ := st; ⟨⟨old, k e (by simp) _ he⟩, Sr.tn_keep h1 fun o q => k it (by simp) o q⟩
  item := by
    intro X hP hw hK hc i pins s σ H E I hf st hg
    subst hP hw hK
    obtain ⟨⟨old, he⟩, h1⟩ := st
    obtain ⟨m1, ⟨P1, St1, D1, st1, v1, t1⟩, _, lt1, _⟩ := S.draws I n1 h1 (Sr.has_upto hg)
    have hel : e < s.heap.objs.size := Heap.lt_size he
    have hil : it < s.heap.objs.size := by obtain ⟨_, q, _⟩ := Sr.tn_obj h1; exact Heap.lt_size q
    refine wpAny_pyNext_enum_itemD (D1 _ (I.ok.hd hc)) he st1 (lt1 hg) ne (by simp [ne, nf]) fun u h' tk p1 ho st1' hT hsz hk => ?_
    obtain ⟨x, hx, rx⟩ := v1 u p1
    refine ⟨_, rfl, wpAny_letOwnedTupleGo_enum (s := { s with heap := h', toks := tk + 1 }) ho fun h'' he' sb => ?_⟩
    have hT2 : h''.get? s.heap.objs.size = some { cls := .type "tuple", data := .seq #[.int i tk, u] } := (sb.2 _ (Nat.ne_of_gt hel)).trans hT
    have new : ObjOk X.prog X.w (upd H s.heap.objs.size (.tup [.int (i : Nat), x])) h'' s.heap.objs.size (.tup [.int (i : Nat), x]) :=
      ⟨by show 2 ≤ sizeLine; decide, [.int i tk, u], .cons ⟨_, rfl⟩ (.cons rx .nil), ⟨_, hT2, rfl, _, rfl⟩⟩
    have I1 : Inv X pins σ (upd H s.heap.objs.size (.tup [.int (i : Nat), x])) { s with heap := h'', toks := tk + 1 } :=
      I.turnedNew (ch := [e, it]) (fun b ob hb q => (sb.2 b (fun z => hb (by simp [z]))).trans (hk b ob (fun z => hb (by simp [z])) (fun z => hb (by simp [z])) q)) hf (Nat.le_refl _) new
    refine ⟨.ref s.heap.objs.size, _, I1, rfl, ⟨_, x, rfl, I.hok.fresh (Nat.le_refl _), rfl, hx⟩, ⟨⟨u, ?_⟩, Sr.tn_keep (t1 _ _ st1') fun o q => (sb.2 it (Ne.symm ne)).trans q⟩, fun b hb => ?_⟩
    · have e1 : ((i + 1 : Nat) : Int) = (i : Int) + 1 := by omega
      rw [e1]; exact he'
    · have hb' : b < s.heap.objs.size := by
        have e' : b = e ∨ b = it := by simpa using hb
        rcases e' with z | z
        · rw [z]; exact hel
        · rw [z]; exact hil
      rw [upd_ne (Nat.ne_of_lt hb')]
      exact (hf b hb).1
  done := by
    intro X hP hw hK hc i pins s σ H E I hf st hg
    subst hP hw hK
    obtain ⟨⟨old, he⟩, h1⟩ := st
    obtain ⟨g1, ge⟩ := hg
    obtain ⟨m1, ⟨P1, St1, D1, st1, v1, t1⟩, _, _, eq1⟩ := S.draws I n1 h1 g1
    obtain ⟨f0, f1, f2, f3, f4, f5⟩ := hf it (by simp)
    have e1 := eq1 ge
    subst e1
    exact wpAny_pyNext_enum_endD (D1 _ (I.ok.hd hc)) he st1 fun h' eb => ⟨rfl, I.turned (t' := s.toks) (fun b o hb q => eb b o hb q) f0 f1 f3 f4 f5⟩
  self := fun A i s Q E st h => let ⟨⟨_, he⟩, _⟩ := st; wpAny_pyIter_enum he h
def iEnumX (K : PySem.W.Frag) (ta : TA) : TI := fun σ H R => ta σ H fun vs H1 => ∃ (x : V) (S : Sr), vs = [x] ∧ S.of x ∧ S.there K H1 ∧ R (IteX K S) H1
theorem pi_enumX {X : Cx} {e : Expr} {ta : TA} {p pos tpos : Pos} {elts : List Expr} {kk : Nat} (hg : Gl X "enumerate") (hm : X.mg "enumerate" = none) (ha : PA X [e] ta) (hs : starEach [e] X.env = [(false, eval e X.env)] := by rfl) :
    PI X (.Tuple elts kk tpos) (.Call (.Name "enumerate" p) [e] [] pos) (iEnumX X.K ta) := by
  refine ⟨fun pins s σ H R I h => ?_⟩
  refine Call_ (ld_blt I hg hm PyProof.Rows.boot_enumerate (PyProof.Rows.callWith_type1 (thn (ha.run pos pins s σ H _ I h) fun us s1 ⟨vs, H1, I1, r1, q1⟩ => ?_) hs rfl))
  obtain ⟨x, S, ex, e1, th1, q⟩ := q1
  subst ex
  obtain ⟨u, rfl, r⟩ := vals1 r1
  obtain ⟨o1, HH1, B1, b1, f1, t1⟩ := Sr.begins I1 r e1 th1
  refine enum1_begins B1 b1 fun h' he hit hsz hk => wpAny_pyIter_enum he ?_
  have I2 : Inv X pins σ H1 { s1 with heap := h' } := I1.kept (t' := s1.toks) hk
  refine ⟨s1.heap.objs.size + 1, [s1.heap.objs.size + 1, s1.heap.objs.size], _, _, H1, rfl, I2, turn_enumX S (fun a ha => Nat.ne_of_lt (f1 a ha)) (Nat.succ_ne_self _) (fun hm => Nat.not_lt.mpr (Nat.le_add_right _ _) (f1 _ hm)), ⟨⟨.none, he⟩, t1 _ _ hit⟩, fun b hb => ?_, q⟩
  have e' : b = s1.heap.objs.size + 1 ∨ b = s1.heap.objs.size := by simpa using hb
  have hle : s1.heap.objs.size ≤ b := by
    rcases e' with z | z
    · rw [z]; exact Nat.le_add_right _ _
    · rw [z]; exact Nat.le_refl _
  exact I1.fpOk hle (I1.hok.fresh hle)
theorem walk_enumX {K : PySem.W.Frag} {S : Sr} {xs : List V} : Walk (IteX K S) xs.length (fun H => S.is K H xs) (YPair (fun i => some (.int (i : Nat))) (fun i => xs[i]?)) := by
  refine ⟨fun i H hi q => Sr.is_has hi q, fun H q => ⟨Sr.is_upto (Nat.le_refl _) q, Sr.is_ends rfl q⟩, fun i H v H' _ q y => ?_⟩
  obtain ⟨T, x, h1, h2, h3, h4⟩ := y
  exact ⟨T, .int (i : Nat), x, h1, h2, h3, rfl, Sr.is_val q h4⟩
theorem dc_keep {Rel : Hp → Hp → Prop} {J : It} {n : Nat} {G : Hp → Prop} {Y : Nat → Hp → V → Hp → Prop} {H1 : Hp} (kp : Keep Rel H1) (w : Walk J n G Y) {g : TG} {ka te : TE} {vs : List Nat} {σ : L2.St} {D : Addr} {Qd : Hp → Prop} (hD : H1 D = none) (hn : n < sizeLine)
    (key : Nat → Key) (Good : Nat → V → Hp → Prop) (hG : ∀ H, Rel H1 H → G H) (inj : ∀ i j, i < n → j < i → key j ≠ key i)
    (st : ∀ i y H H', Rel H1 H → Rel H H' → Good i y H → Good i y H') (pt : ∀ i y H acc o, Rel H1 H → H D = some (.dK acc) → Good i y H → Good i y (upd H D o))
    (hs : ∀ i x H H' acc (R : V → V → Hp → Prop), i < n → Rel H1 H → H D = some (.dK acc) → Y i H x H' → (∀ y H4, Rel H H4 → Good i y H4 → R (kV (key i)) y H4) → g x (wipe σ vs) H' fun σ2 H2 => wipe σ2 vs = wipe σ vs ∧ ka σ2 H2 fun k H3 => te σ2 H3 fun z H4 => R k z H4)
    (hd : ∀ ys H, ys.length = n → (∀ (j : Nat) y, ys[j]? = some y → Good j y H) → Rel H1 H → H D = some (.dK ((List.range n).zip ys |>.map fun p => (key p.1, p.2))) → Qd H) :
    ∃ W : Nat → Nat → Hp → Prop, (∃ m, W 0 m (upd H1 D (.dK []))) ∧ ∀ i m H, W i m H →
      (J.stop i H ∧ Qd H) ∨ (J.go i H ∧ ∃ Nx : Hp → Prop, (∀ H', Nx H' → ∃ m', m' < m ∧ W (i + 1) m' H') ∧ ∀ x H', J.yld i H x H' → g x (wipe σ vs) H' fun σ2 H2 => wipe σ2 vs = wipe σ vs ∧ tYes σ2 H2 fun b H3 =>
        if b = true then ka σ2 H3 fun y H4 => te σ2 H4 fun z H5 => ∃ kvs k, y = kV k ∧ H5 D = some (.dK kvs) ∧ kvs.length < sizeLine ∧ Nx (upd H5 D (.dK (putK kvs k z))) else Nx H3) := by
  refine ⟨fun i m H => m = n - i ∧ i ≤ n ∧ ∃ ys : List V, ys.length = i ∧ H D = some (.dK ((List.range i).zip ys |>.map fun p => (key p.1, p.2))) ∧ Rel H1 H ∧ ∀ (j : Nat) y, ys[j]? = some y → Good j y H, ⟨n, by omega, Nat.zero_le _, [], rfl, upd_same, kp.put _ _ _ kp.refl hD, fun j y e => by simp at e⟩, ?_⟩
  rintro i m H ⟨rfl, hi, ys, hl, hDa, r, hg⟩
  rcases Nat.lt_or_ge i n with h | h
  · refine .inr ⟨w.goes i H h (hG H r), fun H' => ∃ ys : List V, ys.length = i + 1 ∧ H' D = some (.dK ((List.range (i + 1)).zip ys |>.map fun p => (key p.1, p.2))) ∧ Rel H1 H' ∧ ∀ (j : Nat) y, ys[j]? = some y → Good j y H', fun H' h' => ⟨n - (i + 1), by omega, rfl, h, h'⟩, fun x H' hy => ?_⟩
    have key2 : ∀ (z : V) H5, Rel H H5 → Good i z H5 → ∃ kvs k, kV (key i) = kV k ∧ H5 D = some (.dK kvs) ∧ kvs.length < sizeLine ∧ ∃ ys : List V, ys.length = i + 1 ∧ (upd H5 D (.dK (putK kvs k z))) D = some (.dK ((List.range (i + 1)).zip ys |>.map fun p => (key p.1, p.2))) ∧ Rel H1 (upd H5 D (.dK (putK kvs k z))) ∧ ∀ (j : Nat) y, ys[j]? = some y → Good j y (upd H5 D (.dK (putK kvs k z))) := fun z H5 r5 gz => by
      have hD5 := kp.get _ _ _ _ r5 hD r hDa
      have r6 := kp.trans _ _ r r5
      refine ⟨_, key i, rfl, hD5, by rw [List.length_map, List.length_zip, List.length_range, hl]; omega, ys ++ [z], by simp [hl], ?_, kp.put _ _ _ r6 hD, fun j y e => ?_⟩
      · rw [upd_same]
        congr 2
        rw [putK_new _ (valV_none fun p hp => ?_), List.range_succ, List.zip_append (by rw [List.length_range, hl])]
        · simp
        · obtain ⟨q, hq, rfl⟩ := List.mem_map.mp hp
          have : q.1 < i := List.mem_range.mp (List.of_mem_zip hq).1
          exact inj i q.1 h this
      · rcases Nat.lt_or_ge j ys.length with h | h
        · rw [List.getElem?_append_left h] at e
          exact pt _ _ _ _ _ r6 hD5 (st _ _ _ _ r r5 (hg j y e))
        · rw [List.getElem?_append_right h] at e
          have hj : j - ys.length = 0 := by
            rcases Nat.lt_or_ge (j - ys.length) 1 with z | z
            · omega
            · rw [List.getElem?_eq_none (by simpa using z)] at e; cases e
          rw [hj] at e
          have : z = y := Option.some.inj e
          subst this
          have : j = i := by omega
          subst this
          exact pt _ _ _ _ _ r6 hD5 gz
    exact hs i x H H' _ (fun k z H5 => ∃ kvs k', k = kV k' ∧ H5 D = some (.dK kvs) ∧ kvs.length < sizeLine ∧ ∃ ys : List V, ys.length = i + 1 ∧ (upd H5 D (.dK (putK kvs k' z))) D = some (.dK ((List.range (i + 1)).zip ys |>.map fun p => (key p.1, p.2))) ∧ Rel H1 (upd H5 D (.dK (putK kvs k' z))) ∧ ∀ (j : Nat) y, ys[j]? = some y → Good j y (upd H5 D (.dK (putK kvs k' z)))) h r hDa (w.yields i H x H' h (hG H r) hy) fun y H4 r4 gy => key2 y H4 r4 gy
  · have : i = n := by omega
    subst this
    exact .inl ⟨w.stops H (hG H r), hd ys H hl hg r hDa⟩
end LX
set_option maxHeartbeats 4000000
namespace LX
open PySem PySem.Spec PyProof.Rows L2 C8 SX
theorem inK {X : Cx} (K : PySem.W.Frag) (h : X.K = K := by rfl) : OpR X (compareOp .In) (rIn K false) := by subst h; exact op_in_seq
theorem notInK {X : Cx} (K : PySem.W.Frag) (h : X.K = K := by rfl) : OpR X (compareOp .NotIn) (rIn K true) := by subst h; exact op_notIn_seq
section
variable {prog : Program} {w : World} {A : Around} {R : Result → Shared → Prop} {I S : Addr} {fp wr : List Addr} {G : Array GenState → Array GenState → Prop} {n : Nat} {P : Nat → Value → Prop} {St : Nat → Shared → Prop}
abbrev setO (led : Bool) : Obj := { cls := .type "set", dict := none, data := .set #[] 0 (.fresh 0 0 led) }
abbrev Elem (prog : Program) (w : World) (xs : List Str) (i : Nat) (S : Addr) (h : Heap) : Prop := h.SetOf (PySem.strKind prog w) S (fun k => decide (k ∈ xs.take i)) i
theorem Elem.stay {xs : List Str} {i : Nat} {h h' : Heap} (e : Elem prog w xs i S h) (k : ∀ o, h.get? S = some o → h'.get? S = some o) : Elem prog w xs i S h' :=
  let ⟨o, es, ep, tb, ho, rest⟩ := e; ⟨o, es, ep, tb, k o ho, rest⟩
theorem set_loopT (W : WalksS prog w A.in1 I fp wr G n P St) (off : S ∉ fp) {xs : List Str} (hl : xs.length = n) (nd : xs.Nodup) (room : n < scanBound) (val : ∀ i v, P i v → ∃ x t, xs[i]? = some x ∧ v = .str x t) :
    ∀ (k i : Nat) (s : Shared), i + k = n → St i s → Elem prog w xs i S s.heap → (∀ s', Moved (S :: wr) G s s' → Elem prog w xs n S s'.heap → R (.ok (.ret .none)) s') →
      codeAny (model prog w) A (.builtin "set.update.loop" ⟨[.ref S, .ref I], []⟩) R s
  | 0, i, s, hk, hst, he, hR => by
    obtain rfl : i = n := hk
    refine codeAny_builtin PyProof.Rows.F.entry_set_update_loop ?_
    rw [Around.under_plainId PyProof.Rows.F.plain_set_update_loop _]
    refine wpAny_bind (W.done s _ _ hst fun s' hm => wpAny_pure (hR s' (hm.mono fun b hb => List.mem_cons_of_mem _ hb) (he.stay fun o e => hm.heap S o (fun h => off (W.sub _ h)) e)))
  | k + 1, i, s, hk, hst, he, hR => by
    refine codeAny_builtin PyProof.Rows.F.entry_set_update_loop ?_
    rw [Around.under_plainId PyProof.Rows.F.plain_set_update_loop _]
    refine wpAny_bind (W.item i s _ _ (by omega) hst fun v s' hP hst' hm => ?_)
    obtain ⟨x, t, hx, rfl⟩ := val i v hP
    have he' : Elem prog w xs i S s'.heap := he.stay fun o e => hm.heap S o (fun h => off (W.sub _ h)) e
    show wpAny _ A.in1 (holding [Value.str x t] (setAdd S (.str x t)) >>= _) _ _ s'
    refine wpAny_bind (wpAny_holding ?_)
    unfold setAdd
    refine wpAny_holding (wpAny_bind ((PySem.strKind prog w).pyHash (k := x) (strKind_is _ _ _ _) ?_))
    refine wpAny_setAddHashed_of (knd := PySem.strKind prog w) (s := { s' with toks := s'.toks + 1 }) (strKind_is _ _ _ _) rfl he' (by omega) fun h' hsb hS2 => ?_
    have hni : x ∉ xs.take i := not_in_take nd hx
    have he2 : Elem prog w xs (i + 1) S h' := SetOf_congr hS2 (fun y => by rw [take_more hx]; by_cases e : y ∈ xs.take i <;> by_cases e2 : y = x <;> simp [e, e2]) (by rw [if_neg (by simpa using hni)])
    refine wpAny_pure ⟨plainId_quiet PyProof.Rows.F.plain_set_update_loop _, set_loopT W off hl nd room val k (i + 1) _ (by omega) (W.frame _ s' _ _ hst' (Nat.le_succ _) fun b hb o e => ?_) he2 fun s2 hm2 he3 => ?_⟩
    · rw [hsb.2 b (fun h => off (h ▸ hb))]; exact e
    · refine hR s2 (Moved.trans W.gtrans ((hm.mono fun b hb => List.mem_cons_of_mem _ hb).then_heap (Nat.le_succ _) fun b o hb e => ?_) hm2) he3
      rw [hsb.2 b (fun h => hb (by rw [h]; exact List.mem_cons_self))]; exact e
end
section
variable {prog : Program} {w : World} {A : Around} {E : Value → Shared → Prop} {s : Shared}
theorem set_of_list {l : Addr} {items : Array Value} {xs : List Str} {Q : Value → Shared → Prop} (hh : A.handled = none) (hl : s.heap.IsList l items) (hi : PyProof.Rows.StrsAre items.toList xs) (nd : xs.Nodup) (room : xs.length < scanBound)
    (h : ∀ (h' : Heap) (tk : Nat), Elem prog w xs xs.length s.heap.objs.size h' → (∀ b o, s.heap.get? b = some o → h'.get? b = some o) → Q (.ref s.heap.objs.size) { s with heap := h', toks := tk }) :
    wpAny (model prog w) A (call (.type "set") [.ref l]) Q E s := by
  obtain ⟨c, tl, hmro⟩ := PySem.F.called_set.mro
  have hmade := PySem.F.called_set.made
  have hsub := PySem.F.called_set.sub
  refine wpAny_call (codeAny_of_tree ?_)
  refine wpAny_pure ⟨Code.quiet_builtin _ (by decide +kernel), codeAny_builtin PySem.F.entry_type_call ?_⟩
  rw [Around.under_plain (weight_type_call_type "set" [.ref l] []) rfl]
  have nt := PySem.F.called_set.notType
  have cc := PySem.F.called_set.canCreate
  have ct := PySem.F.typeCall_set_1 (.ref l)
  repeat (any_goals (first | assumption | wp_step))
  refine codeAny_mono (code_set_new_1 (.ref l) (E := E) (Q₁ := fun obj s1 => ∃ led : Bool, obj = .ref s.heap.objs.size ∧ s1 = { s with heap := s.heap.push { cls := .type "set", dict := none, data := .set #[] 0 (.fresh 0 0 led) } }) fun led => ⟨led, rfl, rfl⟩) fun r s1 hr => ?_
  match r, hr with
  | .ok (.ret obj), hr =>
    obtain ⟨led, rfl, rfl⟩ := hr
    have hS : (s.heap.push (setO led)).get? s.heap.objs.size = some (setO led) := Heap.get?_push_size _ rfl
    have hTy : Shared.TypeIs { s with heap := s.heap.push (setO led) } (.ref s.heap.objs.size) "set" := ⟨_, hS, rfl⟩
    have li := PySem.F.called_set.init.lookup
    have bi := PySem.F.called_set.init.bind (.ref s.heap.objs.size)
    repeat (any_goals (first | assumption | wp_step))
    refine codeAny_mono (codeAny_call_builtin (R := wants (fun r s2 => r = .none ∧ ∃ h' tk, s2 = { s with heap := h', toks := tk } ∧ Elem prog w xs xs.length s.heap.objs.size h' ∧ (∀ b o, s.heap.get? b = some o → h'.get? b = some o)) E)
      PySem.F.called_set.init.plain PySem.F.entry_set_init (check_set_init_1 hTy ?_)) fun r2 s2 hr2 => ?_
    · obtain ⟨⟨oc, od, odt, osl⟩, hol, hcl, nl, hdl⟩ := hl
      dsimp only at hcl hdl
      subst hcl hdl
      have hol' : (s.heap.push (setO led)).get? l = some { cls := .type "list", dict := od, data := .seq items nl, slots := osl } := Heap.get?_push_of_some _ hol
      have ss := PySem.F.sub_list_set
      have sf := PySem.F.sub_list_frozenset
      have ne : (Value.type "list" == Value.type "dict") = false := by decide
      have hl1 : (s.heap.push (setO led)).IsList l items := ⟨_, hol', rfl, nl, rfl⟩
      unfold Builtin.«set.__init__» noKeywords Builtin.Frozenset.updateFrom
      generalize hPI : pyIter = PI
      wp_walk
      subst hPI
      refine wpAny_pyIter_list hl1 ?_
      refine wpAny_bind (wpAny_runValue ?_)
      have hlS : l < s.heap.objs.size := Heap.lt_size hol
      have hz : (s.heap.push (setO led)).objs.size = s.heap.objs.size + 1 := Heap.size_push ..
      have neI : l ≠ (s.heap.push (setO led)).objs.size := by rw [hz]; exact Nat.ne_of_lt (Nat.lt_succ_of_lt hlS)
      have off : s.heap.objs.size ∉ [(s.heap.push (setO led)).objs.size, l] := by
        rw [hz]; simp only [List.mem_cons, List.not_mem_nil, or_false, not_or]
        exact ⟨Nat.ne_of_lt (Nat.lt_succ_self _), Nat.ne_of_gt hlS⟩
      have hsz : xs.length = items.size := by rw [← StrsAre.len_eq hi, Array.length_toList]
      refine set_loopT (xs := xs) ((Walks.list (A := A.in1.in1.in1) (by simp [hh]) _ l neI items).toS) off hsz nd (by rw [← hsz]; exact room) (fun i v hv => ?_) items.size 0 _ (Nat.zero_add _) ⟨⟨_, Heap.get?_push_size _ rfl, rfl, rfl⟩, hl1.push _⟩ ?_ fun s' hm hS' => ?_
      · obtain ⟨t, e⟩ := SS.strs_at hi i v (by rw [Array.getElem?_toList]; exact hv)
        have hlt : i < xs.length := by rw [hsz]; exact (Array.getElem?_eq_some_iff.mp hv).1
        exact ⟨xs[i], t, List.getElem?_eq_getElem hlt, by rw [e, List.getD_eq_getElem?_getD, List.getElem?_eq_getElem hlt]; rfl⟩
      · exact PyProof.Rows.SetOf_congr ((PyProof.Rows.setObjOf_fresh (knd := PySem.strKind prog w) led).setOf (Heap.get?_push_of_some _ hS) (by unfold scanBound; omega)) (fun _ => by simp) rfl
      · obtain ⟨h', g', d', tk', os'⟩ := s'
        obtain rfl : g' = s.gens := hm.gens
        obtain rfl : d' = s.drawn := hm.drawn
        obtain rfl : os' = s.os := hm.os
        refine wpAny_pure (wpAny_pure ⟨rfl, h', tk', rfl, by rw [hsz]; exact hS', fun b o e => ?_⟩)
        have hb : b < s.heap.objs.size := Heap.lt_size e
        refine hm.heap b o (fun hmem => ?_) (Heap.get?_push_of_some _ (Heap.get?_push_of_some _ e))
        have e' : b = s.heap.objs.size ∨ b = (s.heap.push (setO led)).objs.size := by simpa using hmem
        rcases e' with e' | e'
        · exact Nat.ne_of_lt hb e'
        · rw [hz] at e'; exact Nat.ne_of_lt (Nat.lt_succ_of_lt hb) e'
    · match r2, hr2 with
      | .ok (.ret r), hr2 =>
        obtain ⟨rfl, h', tk, rfl, hS', hk'⟩ := hr2
        repeat (any_goals (first | assumption | wp_step))
        exact h _ _ hS' hk'
      | .error e, hr2 => exact hr2
  | .error e, hr => exact hr
end
section
variable {prog : Program} {w : World} {A : Around} {E : Value → Shared → Prop} {s : Shared}
theorem set_of_tuple {l : Addr} {items : Array Value} {xs : List Str} {Q : Value → Shared → Prop} (hh : A.handled = none) (hl : s.heap.IsTuple l items) (hi : PyProof.Rows.StrsAre items.toList xs) (nd : xs.Nodup) (room : xs.length < scanBound)
    (h : ∀ (h' : Heap) (tk : Nat), Elem prog w xs xs.length s.heap.objs.size h' → (∀ b o, s.heap.get? b = some o → h'.get? b = some o) → Q (.ref s.heap.objs.size) { s with heap := h', toks := tk }) :
    wpAny (model prog w) A (call (.type "set") [.ref l]) Q E s := by
  obtain ⟨c, tl, hmro⟩ := PySem.F.called_set.mro
  have hmade := PySem.F.called_set.made
  have hsub := PySem.F.called_set.sub
  refine wpAny_call (codeAny_of_tree ?_)
  refine wpAny_pure ⟨Code.quiet_builtin _ (by decide +kernel), codeAny_builtin PySem.F.entry_type_call ?_⟩
  rw [Around.under_plain (weight_type_call_type "set" [.ref l] []) rfl]
  have nt := PySem.F.called_set.notType
  have cc := PySem.F.called_set.canCreate
  have ct := PySem.F.typeCall_set_1 (.ref l)
  repeat (any_goals (first | assumption | wp_step))
  refine codeAny_mono (code_set_new_1 (.ref l) (E := E) (Q₁ := fun obj s1 => ∃ led : Bool, obj = .ref s.heap.objs.size ∧ s1 = { s with heap := s.heap.push { cls := .type "set", dict := none, data := .set #[] 0 (.fresh 0 0 led) } }) fun led => ⟨led, rfl, rfl⟩) fun r s1 hr => ?_
  match r, hr with
  | .ok (.ret obj), hr =>
    obtain ⟨led, rfl, rfl⟩ := hr
    have hS : (s.heap.push (setO led)).get? s.heap.objs.size = some (setO led) := Heap.get?_push_size _ rfl
    have hTy : Shared.TypeIs { s with heap := s.heap.push (setO led) } (.ref s.heap.objs.size) "set" := ⟨_, hS, rfl⟩
    have li := PySem.F.called_set.init.lookup
    have bi := PySem.F.called_set.init.bind (.ref s.heap.objs.size)
    repeat (any_goals (first | assumption | wp_step))
    refine codeAny_mono (codeAny_call_builtin (R := wants (fun r s2 => r = .none ∧ ∃ h' tk, s2 = { s with heap := h', toks := tk } ∧ Elem prog w xs xs.length s.heap.objs.size h' ∧ (∀ b o, s.heap.get? b = some o → h'.get? b = some o)) E)
      PySem.F.called_set.init.plain PySem.F.entry_set_init (check_set_init_1 hTy ?_)) fun r2 s2 hr2 => ?_
    · obtain ⟨⟨oc, od, odt, osl⟩, hol, hcl, nl, hdl⟩ := hl
      dsimp only at hcl hdl
      subst hcl hdl
      have hol' : (s.heap.push (setO led)).get? l = some { cls := .type "tuple", dict := od, data := .seq items nl, slots := osl } := Heap.get?_push_of_some _ hol
      have ss := PySem.F.sub_tuple_set
      have sf := PySem.F.sub_tuple_frozenset
      have ne : (Value.type "tuple" == Value.type "dict") = false := by decide
      have hl1 : (s.heap.push (setO led)).IsTuple l items := ⟨_, hol', rfl, nl, rfl⟩
      unfold Builtin.«set.__init__» noKeywords Builtin.Frozenset.updateFrom
      generalize hPI : pyIter = PI
      wp_walk
      subst hPI
      refine wpAny_pyIter_tuple hl1 ?_
      refine wpAny_bind (wpAny_runValue ?_)
      have hlS : l < s.heap.objs.size := Heap.lt_size hol
      have hz : (s.heap.push (setO led)).objs.size = s.heap.objs.size + 1 := Heap.size_push ..
      have neI : l ≠ (s.heap.push (setO led)).objs.size := by rw [hz]; exact Nat.ne_of_lt (Nat.lt_succ_of_lt hlS)
      have off : s.heap.objs.size ∉ [(s.heap.push (setO led)).objs.size, l] := by
        rw [hz]; simp only [List.mem_cons, List.not_mem_nil, or_false, not_or]
        exact ⟨Nat.ne_of_lt (Nat.lt_succ_self _), Nat.ne_of_gt hlS⟩
      have hsz : xs.length = items.size := by rw [← StrsAre.len_eq hi, Array.length_toList]
      refine set_loopT (xs := xs) ((Walks.tuple (A := A.in1.in1.in1) (by simp [hh]) _ l neI items).toS) off hsz nd (by rw [← hsz]; exact room) (fun i v hv => ?_) items.size 0 _ (Nat.zero_add _) ⟨⟨_, Heap.get?_push_size _ rfl, rfl, rfl⟩, hl1.push _⟩ ?_ fun s' hm hS' => ?_
      · obtain ⟨t, e⟩ := SS.strs_at hi i v (by rw [Array.getElem?_toList]; exact hv)
        have hlt : i < xs.length := by rw [hsz]; exact (Array.getElem?_eq_some_iff.mp hv).1
        exact ⟨xs[i], t, List.getElem?_eq_getElem hlt, by rw [e, List.getD_eq_getElem?_getD, List.getElem?_eq_getElem hlt]; rfl⟩
      · exact PyProof.Rows.SetOf_congr ((PyProof.Rows.setObjOf_fresh (knd := PySem.strKind prog w) led).setOf (Heap.get?_push_of_some _ hS) (by unfold scanBound; omega)) (fun _ => by simp) rfl
      · obtain ⟨h', g', d', tk', os'⟩ := s'
        obtain rfl : g' = s.gens := hm.gens
        obtain rfl : d' = s.drawn := hm.drawn
        obtain rfl : os' = s.os := hm.os
        refine wpAny_pure (wpAny_pure ⟨rfl, h', tk', rfl, by rw [hsz]; exact hS', fun b o e => ?_⟩)
        have hb : b < s.heap.objs.size := Heap.lt_size e
        refine hm.heap b o (fun hmem => ?_) (Heap.get?_push_of_some _ (Heap.get?_push_of_some _ e))
        have e' : b = s.heap.objs.size ∨ b = (s.heap.push (setO led)).objs.size := by simpa using hmem
        rcases e' with e' | e'
        · exact Nat.ne_of_lt hb e'
        · rw [hz] at e'; exact Nat.ne_of_lt (Nat.lt_succ_of_lt hb) e'
    · match r2, hr2 with
      | .ok (.ret r), hr2 =>
        obtain ⟨rfl, h', tk, rfl, hS', hk'⟩ := hr2
        repeat (any_goals (first | assumption | wp_step))
        exact h _ _ hS' hk'
      | .error e, hr2 => exact hr2
  | .error e, hr => exact hr
end
section
variable {X : Cx}
def tLenSetT (K : PySem.W.Frag) (ta : TE) : TE := fun σ H Q => ta σ H fun x H1 => ∃ (l : Addr) (xs : List (List Nat)), x = V.ref l ∧ (SqL K H1 l (txs xs) ∨ SqT K H1 l (txs xs)) ∧ xs.length < 60 ∧ xs.Nodup ∧ Q (.int xs.length) H1
theorem nodup_S {xs : List (List Nat)} (h : xs.Nodup) : (xs.map S).Nodup := List.pairwise_map.mpr (h.imp fun n e => n (by have : (S _).cps.toList = (S _).cps.toList := congrArg (fun z : Str => z.cps.toList) e; simpa [S] using this))
theorem pe_lenSetT {a : Expr} {ta : TE} {p p2 q pos : Pos} (hc : X.calm = true) (hg : Gl X "len") (hm : X.mg "len" = none) (hg2 : Gl X "set") (hm2 : X.mg "set" = none) (ha : PE X a ta)
    (na : starEach [a] X.env = (false, eval a X.env) :: starEach [] X.env := by rfl) : PE X (.Call (.Name "len" p) [.Call (.Name "set" p2) [a] [] q] [] pos) (tLenSetT X.K ta) := by
  refine ⟨fun pins s σ H Q I h => ?_⟩
  refine Call_ (ld_blt I hg hm PySem.boot_len (PyProof.Rows.callWith_builtin1 (PyProof.Rows.args_cons ?_ rfl) rfl rfl))
  refine Call_ (ld_blt I hg2 hm2 PyProof.Rows.boot_set (PyProof.Rows.callWith_type1 (PyProof.Rows.args_cons (thn (ha.run pins s σ H _ I h) fun v s1 ⟨x, H1, I1, r1, q1⟩ => PyProof.Rows.args_nil ?_) na) na rfl))
  obtain ⟨l, xs, rfl, hq, h1, hnd, q1⟩ := q1
  cases r1
  have e0 : txs xs = (xs.map S).map V.str := by unfold txs; rw [List.map_map]; rfl
  have room : (xs.map S).length < scanBound := by rw [List.length_map]; unfold scanBound; omega
  have fin : ∀ (h' : Heap) (tk : Nat), Elem X.prog X.w (xs.map S) (xs.map S).length s1.heap.objs.size h' → (∀ b o, s1.heap.get? b = some o → h'.get? b = some o) →
      wpAny (model X.prog X.w) X.A (spliced (backTo pos (starEach [] X.env))) (fun vs s₂ => wpAny (model X.prog X.w) X.A (call (.builtin "len") (Value.ref s1.heap.objs.size :: vs)) (EP X pins σ Q) X.xe s₂) X.xe { s1 with heap := h', toks := tk } := fun h' tk hS hk => by
    refine PyProof.Rows.args_nil ?_
    obtain ⟨o, es, ep, t, ho, hex, hd, _, _, _, hf, hn⟩ := hS
    have I2 : Inv X pins σ H1 { s1 with heap := h', toks := tk } := I1.kept hk
    rw [List.length_map] at hn
    exact call_len_set ho hex hd hf (by rw [hn]; omega) ⟨.int xs.length, H1, I2.tok _, ⟨_, by rw [hn]⟩, q1⟩
  rcases hq with hq | hq
  · rw [e0] at hq
    obtain ⟨its, r, pl, hz⟩ := I1.list hq
    exact set_of_list (I1.ok.hd hc) pl.isList (by simpa using strsAre_of r) (nodup_S hnd) room fun h' tk hS hk => fin h' tk hS hk
  · rw [e0] at hq
    obtain ⟨its, r, pl, hz⟩ := I1.tuple hq
    exact set_of_tuple (I1.ok.hd hc) pl (by simpa using strsAre_of r) (nodup_S hnd) room fun h' tk hS hk => fin h' tk hS hk
end
end LX
set_option maxHeartbeats 2000000
namespace LX
open PySem PySem.Spec PyProof.Rows L2 C8 SX
def SqB (K : PySem.W.Frag) (b : Bool) (H : Hp) (a : Addr) (xs : List V) : Prop := if b = true then SqL K H a xs else SqT K H a xs
def ItA (K : PySem.W.Frag) (b : Bool) (a : Addr) : It := if b = true then Itl K a else Itt K a
theorem SqB.or {K : PySem.W.Frag} {b : Bool} {H : Hp} {a : Addr} {xs : List V} (h : SqB K b H a xs) : SqL K H a xs ∨ SqT K H a xs := by
  cases b
  · exact .inr h
  · exact .inl h
theorem SqB.same {K : PySem.W.Frag} {b : Bool} {H H' : Hp} {a : Addr} {xs : List V} (h : SqB K b H a xs) (s : Same H H') : SqB K b H' a xs := by
  cases b
  · exact sm_seqT s h
  · exact s.seq h
theorem SqB.lst {K : PySem.W.Frag} {H : Hp} {a : Addr} {xs : List V} (h : H a = some (.lst xs)) : SqB K true H a xs := SqL.of h
theorem SqB.tup {K : PySem.W.Frag} {H : Hp} {a : Addr} {xs : List V} (h : H a = some (.tup xs)) : SqB K false H a xs := SqT.of h
def seqB (b : Bool) (xs : List V) : HO := if b = true then .lst xs else .tup xs
theorem SqB.of {K : PySem.W.Frag} {b : Bool} {H : Hp} {a : Addr} {xs : List V} (h : H a = some (seqB b xs)) : SqB K b H a xs := by
  cases b
  · exact SqB.tup h
  · exact SqB.lst h
theorem walk_seq {K : PySem.W.Frag} {b : Bool} {a : Addr} {xs : List V} : Walk (ItA K b a) xs.length (fun H => SqB K b H a xs) (YAt xs) := by
  cases b
  · exact walk_tup
  · exact walk_list
def iSeq (K : PySem.W.Frag) (tl : TE) : TI := fun σ H R => tl σ H fun x H1 => ∃ a b xs, x = .ref a ∧ SqB K b H1 a xs ∧ R (ItA K b a) H1
theorem pi_seq {X : Cx} {tg l : Expr} {tl : TE} (hl : PE X l tl) : PI X tg l (iSeq X.K tl) := by
  refine ⟨fun pins s σ H R I h => thn (hl.run pins s σ H _ I h) fun v s1 ⟨x, H1, I1, r1, a, b, xs, e, hq, q⟩ => ?_⟩
  subst e
  cases r1
  have new : ∀ c ∈ [s1.heap.objs.size], FpOk X pins H1 c := fun c hc => by
    rw [List.mem_singleton.mp hc]
    exact I1.fpOk (Nat.le_refl _) (I1.hok.fresh (Nat.le_refl _))
  cases b with
  | true =>
    obtain ⟨its, rv, p, hz⟩ := I1.list hq
    exact wpAny_pyIter_list p.isList ⟨s1.heap.objs.size, _, _, _, H1, rfl, I1.kept (t' := s1.toks) fun b o e => Heap.get?_push_of_some _ e, turn_list a _, ⟨_, Heap.get?_push_size _ rfl, rfl, rfl⟩, new, q⟩
  | false =>
    obtain ⟨its, rv, p, hz⟩ := I1.tuple hq
    exact wpAny_pyIter_tuple (show s1.heap.IsTuple a its.toArray from p) ⟨s1.heap.objs.size, _, _, _, H1, rfl, I1.kept (t' := s1.toks) fun b o e => Heap.get?_push_of_some _ e, turn_tuple a _, ⟨_, Heap.get?_push_size _ rfl, rfl, rfl⟩, new, q⟩
theorem pi_listK {X : Cx} {tg l : Expr} {tl : TE} (K : PySem.W.Frag) (hl : PE X l tl) (h : X.K = K := by rfl) : PI X tg l (iList K tl) := by subst h; exact pi_list hl
theorem pi_tupK {X : Cx} {tg l : Expr} {tl : TE} (K : PySem.W.Frag) (hl : PE X l tl) (h : X.K = K := by rfl) : PI X tg l (iTup K tl) := by subst h; exact pi_tup hl
theorem pi_seqK {X : Cx} {tg l : Expr} {tl : TE} (K : PySem.W.Frag) (hl : PE X l tl) (h : X.K = K := by rfl) : PI X tg l (iSeq K tl) := by subst h; exact pi_seq hl
def inS : Expr → Scope
  | .ListComp (.ListComp _ _ s _) _ _ _ => s
  | _ => { kind := .function, names := [], isGenerator := false, isCoroutine := false }
def outS : Expr → Scope
  | .ListComp _ _ s _ => s
  | _ => { kind := .function, names := [], isGenerator := false, isCoroutine := false }
def ofRet : Stmt → Expr
  | .Return (some e) _ => e
  | .Assign _ e _ => e
  | _ => .Constant .none 0 ⟨0, 0, 0, 0⟩
theorem tuple_of {K : PySem.W.Frag} {b : Bool} {H : Hp} {a : Addr} {xs : List V} {Q : VK} (h : SqB K b H a xs) (q1 : ∀ l, H l = none → Q (.ref l) (upd H l (.tup xs))) (q2 : b = false → Q (.ref a) H) :
    (SqL K H a xs ∧ ∀ l, H l = none → Q (.ref l) (upd H l (.tup xs))) ∨ (SqT K H a xs ∧ Q (.ref a) H) := by
  cases b
  · exact .inr ⟨h, q2 rfl⟩
  · exact .inl ⟨h, q1⟩
theorem tupA {K : PySem.W.Frag} {b : Bool} {H : Hp} {a : Addr} {xs : List V} {Q : VK} (h : H a = some (seqB b xs)) (k : ∀ l H', Same H H' → H' l = some (.tup xs) → (b = false → l = a) → (b = true → H l = none) → Q (.ref l) H') :
    (SqL K H a xs ∧ ∀ l, H l = none → Q (.ref l) (upd H l (.tup xs))) ∨ (SqT K H a xs ∧ Q (.ref a) H) := by
  cases b
  · exact .inr ⟨SqT.of h, k a H (Same.refl H) h (fun _ => rfl) (fun h => nomatch h)⟩
  · exact .inl ⟨SqL.of h, fun l hl => k l _ (sm_new hl) upd_same (fun h => nomatch h) (fun _ => hl)⟩
theorem tCB_tup {K : PySem.W.Frag} {b : Bool} {i : Nat} {σ : L2.St} {H : Hp} {a : Addr} {xs : List V} {Q : VK} (hv : σ[i]? = some (some (.ref a))) (h : H a = some (seqB b xs)) (k : ∀ l H', Same H H' → H' l = some (.tup xs) → (b = false → l = a) → (b = true → H l = none) → Q (.ref l) H') :
    tCB (fun xs H Q => ∃ p ys, xs = [.ref p] ∧ ((SqL K H p ys ∧ ∀ l, H l = none → Q (.ref l) (upd H l (.tup ys))) ∨ (SqT K H p ys ∧ Q (.ref p) H))) (tCons (tVar i) tNil) σ H Q :=
  ⟨_, hv, a, xs, rfl, tupA (Q := Q) h k⟩
theorem eqV_S {x y : List Nat} : eqV (.str (S x)) (.str (S y)) = decide (x = y) := by
  show (S x == S y) = _
  by_cases e : x = y
  · subst e; simp
  · have : S x ≠ S y := fun h => e (by have : (S x).cps.toList = (S y).cps.toList := congrArg (fun z : Str => z.cps.toList) h; simpa [S] using this)
    rw [decide_eq_false e]; simpa using this
theorem flat_txs (xs : List (List Nat)) : (txs xs).all flatV = true := by
  unfold txs; rw [List.all_map]; exact List.all_eq_true.mpr fun _ _ => rfl
theorem inV_txs {x : List Nat} {xs : List (List Nat)} : inV (.str (S x)) (txs xs) = decide (x ∈ xs) := by
  unfold inV txs
  induction xs with
  | nil => rfl
  | cons y ys ih =>
    rw [List.map_cons, List.any_cons, ih]
    show (eqV (.str (S y)) (.str (S x)) || _) = _
    rw [eqV_S]
    by_cases e : y = x <;> by_cases e2 : x ∈ ys <;> simp [e, e2]
    · intro h; exact absurd h.symm e
theorem dictZipK {X : Cx} (K : PySem.W.Frag) {e e2 : Expr} {ta : TA} {p p2 pos pos2 : Pos} (hc : X.calm = true) (hgd : Gl X "dict") (hmd : X.mg "dict" = none) (hg : Gl X "zip") (hm : X.mg "zip" = none) (ha : PA X [e, e2] ta) (h : X.K = K := by rfl)
    (hs : starEach [e, e2] X.env = (false, eval e X.env) :: starEach [e2] X.env := by rfl) (hpl : (backTo pos2 (starEach [e2] X.env)).any (·.1) = false := by rfl)
    (hs' : starEach [.Call (.Name "zip" p2) [e, e2] [] pos2] X.env = (false, eval (.Call (.Name "zip" p2) [e, e2] [] pos2) X.env) :: starEach [] X.env := by rfl) (hpl' : (backTo pos (starEach [] X.env)).any (·.1) = false := by rfl) :
    PE X (.Call (.Name "dict" p) [.Call (.Name "zip" p2) [e, e2] [] pos2] [] pos) (tDictZip K ta) := by subst h; exact pe_dictZip hc hgd hmd hg hm ha hs hpl hs' hpl'
end LX
set_option maxHeartbeats 2000000
namespace LX
open PySem PySem.Spec PyProof.Rows L2 C8 SX NdefX
noncomputable def upB (h base : Heap) (cs : List Addr) : Heap := hidT h fun b => if (base.get? b).isSome = true ∨ b ∈ cs then none else some (.lst [])
theorem upB_get {h base : Heap} {cs : List Addr} {b : Addr} {o : Obj} (e : h.get? b = some o) (n : (base.get? b).isSome = true ∨ b ∈ cs) : (upB h base cs).get? b = some o := hidT_get e (if_pos n)
theorem of_upB {h base : Heap} {cs : List Addr} {b : Addr} {o : Obj} (e : (upB h base cs).get? b = some o) : h.get? b = some o ∧ ((base.get? b).isSome = true ∨ b ∈ cs) := by
  obtain ⟨e1, e2⟩ := of_hidT e
  refine ⟨e1, ?_⟩
  by_cases n : (base.get? b).isSome = true ∨ b ∈ cs
  · exact n
  · have e2 : (if (base.get? b).isSome = true ∨ b ∈ cs then none else some (HO.lst [])) = none := e2
    rw [if_neg n] at e2; cases e2
structure BCells (cl : List (Str × Addr)) (fr : List Str) (ws : List (Option V)) (base : Heap) : Prop where
  len : ws.length = fr.length
  all : ∀ y c, cl.lookup y = some c → ∃ v, base.IsCell c v
  inj : ∀ x y c, cl.lookup x = some c → cl.lookup y = some c → x = y
  has : ∀ (i : Nat) (y : Str), fr[i]? = some y → ∃ c, cl.lookup y = some c ∧ ∀ v, ws[i]? = some (some v) → ∃ u, RelV v u ∧ base.IsCell c (some u)
theorem BCells.at_ {cl : List (Str × Addr)} {fr : List Str} {ws : List (Option V)} {base : Heap} (b : BCells cl fr ws base) {h : Heap} {H : Hp} (bs : ∀ b o, base.get? b = some o → h.get? b = some o ∧ H b = none) : CellsAt cl fr ws h H :=
  ⟨b.len, fun y c e => let ⟨v, o, e1, e2⟩ := b.all y c e; ⟨(bs _ _ e1).2, v, o, (bs _ _ e1).1, e2⟩, b.inj, fun i y e => let ⟨c, e1, f⟩ := b.has i y e; ⟨c, e1, fun v hv => let ⟨u, r, o, e2, e3⟩ := f v hv; ⟨u, r, o, (bs _ _ e2).1, e3⟩⟩⟩
section
variable {X : Cx} {pins : List (Addr × Obj)} {σ : L2.St} {H : Hp} {s : Shared}
theorem funs_up {h base : Heap} {cs : List Addr} : ∀ {l : List Env}, h.FunFrames base l → (∀ b ∈ frs l, b ∉ cs) → h.FunFrames (upB h base cs) l
  | [], _, _ => trivial
  | env :: rest, ⟨a, ⟨L, o, e1, e2, e3, e4⟩, r⟩, n => by
    have hm : L ∈ frs (env :: rest) := by unfold frs; rw [List.filterMap_cons, e1]; exact List.mem_cons_self
    refine ⟨a, ⟨L, o, e1, ?_, e3, e4⟩, funs_up r fun b hb => n b ?_⟩
    · cases q : (upB h base cs).get? L with
      | none => rfl
      | some o' =>
        rcases (of_upB q).2 with z | z
        · rw [e2] at z; cases z
        · exact absurd z (n L hm)
    · unfold frs at hb ⊢; rw [List.filterMap_cons, e1]; exact List.mem_cons_of_mem _ hb
theorem env_up (I : Inv X pins σ H s) {cs : List Addr} (hc : ∀ c ∈ cs, ∃ x, X.env.cells.lookup x = some c ∧ X.fn x = true) : Env0 X.prog X.w X.K X.mg (upB s.heap X.base cs) X.A X.stack s H := by
  have e0 := I.env0
  have k : ∀ b o, X.base.get? b = some o → (upB s.heap X.base cs).get? b = some o := fun b o e => upB_get (e0.bs b o e).1 (.inl (by rw [e]; rfl))
  obtain ⟨mb, b1, b2⟩ := e0.mod.blt
  refine ⟨e0.frames, ⟨fun b o e => k b o (e0.mod.kin b o e), e0.mod.glob.keeps k, ⟨mb, b1.keeps k, b2⟩, e0.mod.nolimit.keeps k⟩, fun b o e => ?_, Nat.le_of_eq (hidT_size _ _), funs_up e0.funs fun L hL hm => ?_, e0.frf, e0.hok, e0.bare⟩
  · obtain ⟨e1, n⟩ := of_upB e
    refine ⟨e1, ?_⟩
    rcases n with n | n
    · obtain ⟨o', q⟩ := Option.isSome_iff_exists.mp n
      exact (e0.bs b o' q).2
    · obtain ⟨x, hx, _⟩ := hc b n
      exact I.freeC x b hx
  · obtain ⟨x, hx, hf⟩ := hc L hm
    have above := I.ok.cab x L hf hx
    have out : ∀ l : List Env, X.s_0.heap.FunFrames X.base l → L ∈ frs l → False := fun l => by
      induction l with
      | nil => intro _ h; simp [frs] at h
      | cons env rest ih =>
        rintro ⟨_, ⟨M, o, e1, _, e3, _⟩, r⟩ h
        unfold frs at h; rw [List.filterMap_cons, e1] at h
        rcases List.mem_cons.mp h with z | z
        · have := Heap.lt_size e3
          rw [← z] at this
          exact Nat.lt_irrefl _ (Nat.lt_of_lt_of_le this above)
        · exact ih r z
    rcases I.ok.stk with e | ⟨e, ef⟩
    · rw [e] at hL; exact out _ I.ok.funs hL
    · rw [e] at hL
      unfold frs at hL; rw [List.filterMap_cons, ef] at hL
      rcases List.mem_cons.mp hL with z | z
      · obtain ⟨m, ⟨o, es, ep, e1, e2, _⟩, _⟩ := I.loc
        obtain ⟨v, o', q1, q2⟩ := I.cell x L hx
        rw [z, e1] at q1
        cases q1
        rw [e2] at q2; cases q2
      · exact out _ I.ok.funs z
theorem cells_up (I : Inv X pins σ H s) {cl : List (Str × Addr)} {fr : List Str} {js : List Nat} (c : Caps X cl fr js) : BCells cl fr (js.map (slotAt σ)) (upB s.heap X.base (cl.map (·.2))) := by
  have C := cells_of I c
  have mem : ∀ {y : Str} {a : Addr}, cl.lookup y = some a → a ∈ cl.map (·.2) := fun {y a} h => by
    obtain ⟨l1, l2, e, _⟩ := List.lookup_eq_some_iff.mp h
    rw [e]; simp
  refine ⟨C.len, fun y a e => ?_, C.inj, fun i y e => ?_⟩
  · obtain ⟨_, v, o, e1, e2⟩ := C.all y a e
    exact ⟨v, o, upB_get e1 (.inr (mem e)), e2⟩
  · obtain ⟨a, e1, f⟩ := C.has i y e
    exact ⟨a, e1, fun v hv => let ⟨u, r, o, e2, e3⟩ := f v hv; ⟨u, r, o, upB_get e2 (.inr (mem e1)), e3⟩⟩
def tUp (S : List (Option V) → Sp → Prop) (js : List Nat) (t : TA) : TE := fun σ H Q => t σ H fun vs H1 => ∃ sp, S (js.map (slotAt σ)) sp ∧ sp vs H1 Q C8.E0
theorem pe_cUp {k j : Nat} {g : Addr} {x : Str} {p pos : Pos} {e : Expr} {es : List Expr} {t : TA} {cl : List (Str × Addr)} {fr : List Str} {js : List Nat} {S : List (Option V) → Sp → Prop} (named : X.mg x = some (.ref g)) (kept : PySem.W.keepIn X.K (.ref g) = true)
    (cp : X.Ok → Caps X cl fr js) (hfn : ∀ y c, cl.lookup y = some c → X.fn y = true)
    (hS : ∀ ws sp (base' : Heap), S ws sp → X.K.In base' → base'.Ns mainGlobals X.mg → BCells cl fr ws base' → Cal X.prog X.w X.K X.mg base' k x sp []) (room : Room j X.A) (hk : k ≤ j) (hg : Gl X x) (ha : PA X (e :: es) t) (nd : cl.map (·.1) |>.Nodup) (hdb : (x == ("__debug__" : Str)) = false := by decide)
    (he : starEach (e :: es) X.env = (false, eval e X.env) :: starEach es X.env := by rfl) (hpl : (backTo pos (starEach es X.env)).any (·.1) = false := by rfl) : PE X (.Call (.Name x p) (e :: es) [] pos) (tUp S js t) := by
  constructor
  intro pins s σ H Q I want
  refine wpAny_Call_Name_kw (ld_glob I hg named ?_ hdb)
  refine PySem.W.callWith_K (h₀ := X.base) I.ok.mod.kin kept (thn (ha.run pos pins s σ H _ I want) ?_) he hpl
  rintro us s1 ⟨vs, H1, I1, rel, sp, s0, q⟩
  refine ⟨I1.kIn, ?_⟩
  have C := cp I1.ok
  have hcs : ∀ c ∈ cl.map (·.2), ∃ x, X.env.cells.lookup x = some c ∧ X.fn x = true := fun c hc => by
    obtain ⟨⟨y, c'⟩, hm, rfl⟩ := List.mem_map.mp hc
    have hl : cl.lookup y = some c' := by
      clear C hfn hS cp
      induction cl with
      | nil => cases hm
      | cons a r ih =>
        obtain ⟨z, d⟩ := a
        rw [List.map_cons, List.nodup_cons] at nd
        rcases List.mem_cons.mp hm with h | h
        · cases h; exact List.lookup_cons_self ..
        · have hne : (y == z) = false := by
            refine beq_eq_false_iff_ne.mpr fun e => nd.1 ?_
            rw [← e]; exact List.mem_map_of_mem (f := (·.1)) h
          rw [List.lookup_cons, hne]
          exact ih nd.2 h (List.mem_map_of_mem (f := (·.2)) h)
    exact ⟨y, C.sub y c' hl, hfn y c' hl⟩
  have E1 := env_up I1 hcs
  obtain ⟨f, fd, ps, ds, F, named', _, bd, dv⟩ := (hS _ sp _ s0 E1.mod.kin E1.mod.glob (cells_up I1 C)).ex
  rw [named] at named'
  cases named'
  cases dv
  have count : (us ++ []).length = ps.length := by rw [List.append_nil, ← rel.length]; exact F.len _ _ _ _ q
  have bs := bd s1 us I1.kIn count
  rw [List.append_nil] at bs
  refine wpAny_call (codeAny_mono (F.run X.A X.stack s1 H1 ⟨us, []⟩ us vs Q C8.E0 (room.mono hk) E1 bs rel q) fun r t' got => ?_)
  match r, got with
  | .ok (.ret u), got => exact I1.after got
end
def CV (P : Program) (w : World) (K : PySem.W.Frag) (mg : Str → Option Value) (base : Heap) (k : Nat) (g : Addr) (tr : Hp → Prop) (sp : Sp) : Prop :=
  Held P w K mg base k g sp ∨
    ∃ (F : NF) (ps fr : List Str) (ws : List (Option V)) (nsp : List (Option V) → Sp), NOk P w K mg base C8.CX0 k g F ps fr nsp ∧ (∀ vs H Q, tr H → sp vs H Q C8.E0 → nsp ws vs H Q C8.E0) ∧ BCells F.cl fr ws base ∧ ∀ H, tr H → H g = some (FnO g F) ∧ H F.c = some (LamX.CodeO F.c F.qual)
def tCallV (i : Nat) (g : Addr) (tr : Hp → Prop) (sp : Sp) (t : TA) : TE := fun σ H Q => σ[i]? = some (some (.ref g)) ∧ tr H ∧ t σ H fun vs H1 => tr H1 ∧ sp vs H1 Q C8.E0
theorem pe_callV {X : Cx} {k j i : Nat} {g : Addr} {tr : Hp → Prop} {sp : Sp} {x : Str} {p pos : Pos} {e : Expr} {es : List Expr} {t : TA} (c : CV X.prog X.w X.K X.mg X.base k g tr sp) (room : Room j X.A) (hk : k ≤ j) (hN : X.N[i]? = some x) (hv : Vis X.env.scope x) (ha : PA X (e :: es) t)
    (hd : (x == ("__debug__" : Str)) = false := by decide) (hcd : (x == ("__classdict__" : Str)) = false := by decide)
    (he : starEach (e :: es) X.env = (false, eval e X.env) :: starEach es X.env := by rfl) (hpl : (backTo pos (starEach es X.env)).any (·.1) = false := by rfl) : PE X (.Call (.Name x p) (e :: es) [] pos) (tCallV i g tr sp t) := by
  constructor
  rintro pins s σ H Q I ⟨hs, ht, want⟩
  rcases c with ⟨fd, ps, F, kept, bd⟩ | ⟨F, ps, fr, ws, nsp, N, hsp, B, htr⟩
  · have F' : FnOk X.prog X.w X.K X.mg X.base (fun _ _ _ _ _ _ => False) k g fd ps (fun vs H Q E => tr H ∧ sp vs H Q E) := F.imp fun _ _ _ _ q => q.2
    refine (pe_callL (i := i) (dvs := []) (E := fun _ _ _ => False) F' (room.mono hk) hN hv kept bd .nil (fun _ _ _ _ _ _ _ z => z.elim) ha hd hcd he hpl).run pins s σ H Q I ⟨hs, ?_⟩
    have e0 : (fun (vs : List V) (H1 : Hp) => tr H1 ∧ sp (vs ++ []) H1 Q fun _ _ _ => False) = fun vs H1 => tr H1 ∧ sp vs H1 Q C8.E0 := by funext vs H1; rw [List.append_nil]; rfl
    show t σ H fun vs H1 => tr H1 ∧ sp (vs ++ []) H1 Q fun _ _ _ => False
    rw [e0]; exact want
  · refine wpAny_Call_Name_kw (thn ((pe_var (pos := p) hN hv hd hcd).run pins s σ H (fun v H1 => v = .ref g ∧ H1 = H) I ⟨.ref g, hs, rfl, rfl⟩) fun u s1 ⟨v, H1, I1, r1, ev, eH⟩ => ?_)
    subst ev
    rw [eH] at I1
    obtain rfl : u = Value.ref g := r1
    refine PySem.W.callWith_F (first := []) (fnAt_of I1 (htr H ht).1) (thn (ha.run pos pins s1 σ H _ I1 want) fun us s2 ⟨vs, H2, I2, r, h1, q⟩ => ⟨fnAt_of I2 (htr H2 h1).1, ?_⟩) he hpl
    refine wpAny_call (codeAny_mono (N.run X.A X.stack s2 H2 us vs ws Q C8.E0 (room.mono hk) I2.env0 (htr H2 h1).1 (htr H2 h1).2 (B.at_ I2.env0.bs) r (hsp vs H2 Q h1 q)) fun r t' got => ?_)
    match r, got with
    | .ok (.ret u), got => exact I2.after got
theorem calC {P : Program} {w : World} {K : PySem.W.Frag} {mg : Str → Option Value} {base : Heap} {x : Str} {st : Stmt} {f : Addr} {fd : FuncData} {N ps : List Str} {ds : List Value} {dvs : List V} {k : Nat} {sp : Sp} {cdv : Value} (F : C8.Def K mg x st f fd) (hc : fd.code = cdv) (b : Binds K fd ps ds) (d : Vals dvs ds) (S : FnScope N ps (C8.fnScope st)) (len : ∀ vs H Q E, sp vs H Q E → vs.length = ps.length)
    (hbody : ∀ (A : Around) (outer : List Env) (s : Shared) (H : Hp) (vs : List V) (Q : VK) (E : XK), Room k (A.deeper (envOfC x (C8.fnScope st) s.heap.objs.size f cdv)) → sp vs H Q E →
      ∃ t, PSs (cxOf C8.CX0 P w K mg base N x (C8.fnScope st) f cdv A outer s H E).nox (C8.fnBody st) t ∧ t { nx := fun _ H' => Q .non H', rt := Q } (start N vs) H) : C8.Cal P w K mg base (k + 1) x sp dvs := by
  refine ⟨f, fd, ps, ds, ?_, F.mgf, F.kp, b, d⟩
  obtain ⟨oc, od, dV, kV, doc, pm, an, cdv', ct, osl, rfl, lk, hcd⟩ := F.fn.ex
  obtain rfl : cdv' = cdv := hc
  refine fn_of lk hcd S len fun A outer s H vs Q E hr hsp => ?_
  obtain ⟨t, h, q⟩ := hbody A outer s H vs Q E hr hsp
  exact ⟨t, h.nox, q⟩
end LX
set_option maxHeartbeats 2000000
namespace LX
open PySem PySem.Spec PyProof.Rows L2 C8 SX NdefX
def takenN (ok : Nat → Bool) (n : Nat) : List Nat := (List.range n).filter ok
theorem takenN_yes {ok : Nat → Bool} {n : Nat} (h : ok n = true) : takenN ok (n + 1) = takenN ok n ++ [n] := by
  unfold takenN; rw [List.range_succ, List.filter_append, List.filter_cons_of_pos h]; rfl
theorem takenN_no {ok : Nat → Bool} {n : Nat} (h : ok n = false) : takenN ok (n + 1) = takenN ok n := by
  unfold takenN; rw [List.range_succ, List.filter_append, List.filter_cons_of_neg (by rw [h]; exact Bool.false_ne_true)]; exact List.append_nil _
theorem takenN_le {ok : Nat → Bool} {n : Nat} : (takenN ok n).length ≤ n := by
  unfold takenN
  exact Nat.le_trans (List.length_filter_le _ _) (by rw [List.length_range]; exact Nat.le_refl _)
theorem lc_keepF {Rel : Hp → Hp → Prop} {J : It} {n : Nat} {G : Hp → Prop} {Y : Nat → Hp → V → Hp → Prop} {H1 : Hp} (kp : Keep Rel H1) (w : Walk J n G Y) {g : TG} {tt : TT} {te : TE} {vs : List Nat} {σ : L2.St} {D : Addr} {Qd : Hp → Prop} (hD : H1 D = none) (hn : n < sizeLine)
    (ok : Nat → Bool) (Good : Nat → V → Hp → Prop) (hG : ∀ H, Rel H1 H → G H)
    (st : ∀ i y H H', Rel H1 H → Rel H H' → Good i y H → Good i y H') (pt : ∀ i y H acc o, Rel H1 H → H D = some (.lst acc) → Good i y H → Good i y (upd H D o))
    (hs : ∀ i x H H' acc (N : Hp → Prop) (R : V → Hp → Prop), i < n → Rel H1 H → H D = some (.lst acc) → Y i H x H' → (ok i = true → ∀ y H4, Rel H H4 → Good i y H4 → R y H4) → (ok i = false → ∀ H4, Rel H H4 → N H4) →
      g x (wipe σ vs) H' fun σ2 H2 => wipe σ2 vs = wipe σ vs ∧ tt σ2 H2 fun b H3 => if b = true then te σ2 H3 R else N H3)
    (hd : ∀ ys H, ys.length = (takenN ok n).length → (∀ (j k : Nat) y, (takenN ok n)[j]? = some k → ys[j]? = some y → Good k y H) → Rel H1 H → H D = some (.lst ys) → Qd H) :
    ∃ W : Nat → Nat → Hp → Prop, (∃ m, W 0 m (upd H1 D (.lst []))) ∧ ∀ i m H, W i m H →
      (J.stop i H ∧ Qd H) ∨ (J.go i H ∧ ∃ Nx : Hp → Prop, (∀ H', Nx H' → ∃ m', m' < m ∧ W (i + 1) m' H') ∧ ∀ x H', J.yld i H x H' → g x (wipe σ vs) H' fun σ2 H2 => wipe σ2 vs = wipe σ vs ∧ tt σ2 H2 fun b H3 =>
        if b = true then te σ2 H3 fun y H4 => ∃ acc, H4 D = some (.lst acc) ∧ acc.length < sizeLine ∧ Nx (upd H4 D (.lst (acc ++ [y]))) else Nx H3) := by
  refine lc_it w (fun i H => ∃ acc, acc.length = (takenN ok i).length ∧ H D = some (.lst acc) ∧ Rel H1 H ∧ ∀ (j k : Nat) y, (takenN ok i)[j]? = some k → acc[j]? = some y → Good k y H) ⟨[], rfl, upd_same, kp.put _ _ _ kp.refl hD, fun j k y _ e => by simp at e⟩
    (fun i H _ ⟨_, _, _, r, _⟩ => hG H r) (fun i x H H' hi ⟨acc, hl, hDa, r, hg⟩ hy => ?_) (fun H ⟨acc, hl, hDa, r, hg⟩ => hd acc H hl hg r hDa)
  have hle := takenN_le (ok := ok) (n := i)
  refine hs i x H H' acc _ _ hi r hDa hy (fun ho y H4 r4 gy => ?_) (fun ho H4 r4 => ?_)
  · have hD4 := kp.get _ _ _ _ r4 hD r hDa
    have r5 := kp.trans _ _ r r4
    refine ⟨acc, hD4, by omega, acc ++ [y], by rw [takenN_yes ho]; simp [hl], upd_same, kp.put _ _ _ r5 hD, fun j k z ek e => ?_⟩
    rw [takenN_yes ho] at ek
    rcases Nat.lt_or_ge j acc.length with h | h
    · rw [List.getElem?_append_left h] at e
      rw [List.getElem?_append_left (by omega)] at ek
      exact pt _ _ _ _ _ r5 hD4 (st _ _ _ _ r r4 (hg j k z ek e))
    · rw [List.getElem?_append_right h] at e
      rw [List.getElem?_append_right (by omega)] at ek
      have hj : j - acc.length = 0 := by
        rcases Nat.lt_or_ge (j - acc.length) 1 with z | z
        · omega
        · rw [List.getElem?_eq_none (by simpa using z)] at e; cases e
      have hj2 : j - (takenN ok i).length = 0 := by omega
      rw [hj] at e; rw [hj2] at ek
      obtain rfl : y = z := Option.some.inj e
      obtain rfl : i = k := Option.some.inj ek
      exact pt _ _ _ _ _ r5 hD4 gy
  · have hD4 := kp.get _ _ _ _ r4 hD r hDa
    exact ⟨acc, by rw [takenN_no ho]; exact hl, hD4, kp.trans _ _ r r4, fun j k y ek e => by rw [takenN_no ho] at ek; exact st _ _ _ _ r r4 (hg j k y ek e)⟩
end LX
set_option maxHeartbeats 2000000
namespace LX
open PySem PySem.Spec PyProof.Rows L2 C8 SX
theorem S_contains (sg : List Nat) (c : Nat) : (S sg).cps.contains c = decide (c ∈ sg) := by
  rw [Bool.eq_iff_iff, decide_eq_true_eq, ← Array.contains_toList]
  simp [S]
theorem S_empty {l : List Nat} : S l = S [] ↔ l = [] := by
  constructor
  · intro h
    have : (S l).cps.toList = (S []).cps.toList := congrArg (fun z : Str => z.cps.toList) h
    simpa [S] using this
  · rintro rfl; rfl
theorem takeWhile_all {p : Nat → Bool} : ∀ {l : List Nat}, (∀ c ∈ l, p c = true) → l.takeWhile p = l
  | [], _ => rfl
  | c :: l, h => by rw [List.takeWhile_cons, if_pos (h c List.mem_cons_self), takeWhile_all fun d hd => h d (List.mem_cons_of_mem _ hd)]
theorem takeWhile_short {p : Nat → Bool} : ∀ {l : List Nat}, ¬ (∀ c ∈ l, p c = true) → (l.takeWhile p).length < l.length ∧ ∃ d r, l.drop (l.takeWhile p).length = d :: r ∧ p d = false
  | [], h => absurd (fun _ h => nomatch h) h
  | c :: l, h => by
    by_cases hc : p c = true
    · have h' : ¬ ∀ c ∈ l, p c = true := fun q => h fun d hd => by
        rcases List.mem_cons.mp hd with rfl | z
        · exact hc
        · exact q d z
      obtain ⟨i1, d, r, i2, i3⟩ := takeWhile_short h'
      rw [List.takeWhile_cons, if_pos hc]
      exact ⟨Nat.succ_lt_succ i1, d, r, i2, i3⟩
    · rw [List.takeWhile_cons, if_neg hc]
      exact ⟨Nat.succ_pos _, c, l, rfl, by simpa using hc⟩
theorem strip_nil {l sg : List Nat} : Txt.stripChars (S l) (S sg) = S [] ↔ ∀ c ∈ l, c ∈ sg := by
  unfold Txt.stripChars Txt.stripBy stripSame stripped stripLo stripHi
  have eg : (S sg).cps.contains = fun c => decide (c ∈ sg) := funext fun c => S_contains sg c
  have el : (S l).cps.toList = l := rfl
  have en : (S l).length = l.length := S_len l
  rw [eg, if_pos rfl, if_pos rfl, el, en]
  generalize hp : (fun c => decide (c ∈ sg)) = p
  have hpc : ∀ c, p c = true ↔ c ∈ sg := fun c => by rw [← hp]; exact decide_eq_true_iff
  by_cases h : ∀ c ∈ l, p c = true
  · refine ⟨fun _ c hc => (hpc c).mp (h c hc), fun _ => ?_⟩
    rw [takeWhile_all h, List.drop_length, List.reverse_nil, List.takeWhile_nil, List.length_nil, Nat.sub_zero]
    by_cases e : l = []
    · subst e; rfl
    · have : l.length ≠ 0 := fun z => e (List.length_eq_zero_iff.mp z)
      rw [if_neg (by simpa using this)]
      show (⟨(S l).cps.extract l.length l.length⟩ : Str) = S []
      simp [S]
  · obtain ⟨i1, d, r, i2, i3⟩ := takeWhile_short h
    refine ⟨fun e => absurd e ?_, fun q => absurd (fun c hc => (hpc c).mpr (q c hc)) h⟩
    rw [i2]
    have hr : ¬ ∀ c ∈ (d :: r).reverse, p c = true := fun q => by have := q d (by simp); rw [i3] at this; cases this
    have j1 := (takeWhile_short hr).1
    have hlen : (d :: r).length = l.length - (l.takeWhile p).length := by rw [← i2, List.length_drop]
    rw [List.length_reverse] at j1
    by_cases same : ((l.takeWhile p).length == 0 && l.length - ((d :: r).reverse.takeWhile p).length == l.length) = true
    · rw [if_pos same]
      intro e
      have := S_empty.mp e
      subst this
      exact absurd i1 (by simp)
    · rw [if_neg same]
      intro e
      have e2 : ((S l).cps.extract (l.takeWhile p).length (l.length - ((d :: r).reverse.takeWhile p).length)).size = 0 := by
        have : (Builtin.Str.strSub (S l) (l.takeWhile p).length (l.length - ((d :: r).reverse.takeWhile p).length)).cps = (S []).cps := by rw [e]
        rw [show (S l).cps.extract (l.takeWhile p).length (l.length - ((d :: r).reverse.takeWhile p).length) = (S []).cps from this]; rfl
      rw [Array.size_extract] at e2
      have e3 : (S l).cps.size = l.length := by simp [S]
      rw [e3] at e2
      omega
theorem strip_eq {l sg : List Nat} : decide (Txt.stripChars (S l) (S sg) = S []) = decide (∀ c ∈ l, c ∈ sg) := decide_eq_decide.mpr strip_nil
def az : List Nat := (List.range 26).map (· + 97)
theorem az_mem {c : Nat} : c ∈ az ↔ 97 ≤ c ∧ c ≤ 122 := by
  unfold az
  rw [List.mem_map]
  constructor
  · rintro ⟨i, hi, rfl⟩
    have := List.mem_range.mp hi
    omega
  · rintro ⟨h1, h2⟩
    exact ⟨c - 97, List.mem_range.mpr (by omega), by omega⟩
theorem s_az : (Str.ofString "abcdefghijklmnopqrstuvwxyz") = S az := by decide +kernel
end LX
set_option maxHeartbeats 2000000
namespace LX
open PySem PySem.Spec PyProof.Rows L2 C8 SX
def outD : Expr → Scope
  | .DictComp _ _ _ s _ => s
  | _ => { kind := .function, names := [], isGenerator := false, isCoroutine := false }
end LX
set_option maxHeartbeats 2000000
namespace LX
open PySem PySem.Spec PyProof.Rows L2 C8 SX
structure Fit (k n : Nat) (d : PyData) : Prop where
  lay : d.canLay0 = true
  int : d.intsShort 13 = true
  sho : d.showable = true
  dep : d.depth ≤ k
  wei : d.weight ≤ n
theorem Fit.mono {k n k' n' : Nat} {d : PyData} (f : Fit k n d) (hk : k ≤ k') (hn : n ≤ n') : Fit k' n' d := ⟨f.lay, f.int, f.sho, Nat.le_trans f.dep hk, Nat.le_trans f.wei hn⟩
theorem Fit.text {k n : Nat} {l : List Nat} (h : ∀ c ∈ l, c < 1114112) (hn : l.length ≤ n) : Fit k n (.str (S l)) := by
  refine ⟨?_, rfl, rfl, Nat.zero_le _, by simpa [PyData.weight, S] using hn⟩
  show (S l).cps.all (· < 0x110000) = true
  rw [← Array.all_toList, List.all_eq_true]
  exact fun c hc => decide_eq_true (h c hc)
theorem Fit.non {k n : Nat} : Fit k n .none := ⟨rfl, rfl, rfl, Nat.zero_le _, Nat.zero_le _⟩
theorem Fit.bl {k n : Nat} {b : Bool} : Fit k n (.bool b) := ⟨rfl, rfl, rfl, Nat.zero_le _, Nat.zero_le _⟩
theorem Fit.all {k n : Nat} : ∀ {ds : List PyData}, (∀ d ∈ ds, Fit k n d) → PyData.canLayAll0 ds = true ∧ PyData.intsShortAll 13 ds = true ∧ PyData.showableAll ds = true ∧ PyData.depthAll ds ≤ k + 1 ∧ PyData.weightAll ds ≤ ds.length * (n + 1)
  | [], _ => ⟨rfl, rfl, rfl, Nat.zero_le _, Nat.zero_le _⟩
  | d :: ds, h => by
    obtain ⟨h1, h2, h3, h4, h5⟩ := Fit.all (ds := ds) fun x hx => h x (List.mem_cons_of_mem _ hx)
    have f := h d List.mem_cons_self
    refine ⟨?_, ?_, ?_, ?_, ?_⟩
    · show (d.canLay0 && PyData.canLayAll0 ds) = true; rw [f.lay, h1]; rfl
    · show (d.intsShort 13 && PyData.intsShortAll 13 ds) = true; rw [f.int, h2]; rfl
    · show (d.showable && PyData.showableAll ds) = true; rw [f.sho, h3]; rfl
    · have e : PyData.depthAll (d :: ds) = max d.depth (PyData.depthAll ds) ∨ PyData.depthAll (d :: ds) ≤ max (d.depth + 1) (PyData.depthAll ds) := by
        first | exact .inl rfl | exact .inr (by unfold PyData.depthAll; omega)
      have := f.dep
      rcases e with e | e
      · rw [e]; omega
      · omega
    · show d.weight + 1 + PyData.weightAll ds ≤ _
      have := f.wei
      rw [List.length_cons, Nat.add_mul]
      omega
theorem Fit.tup {k n m : Nat} {ds : List PyData} (h : ∀ d ∈ ds, Fit k n d) (hm : ds.length ≤ m) : Fit (k + 2) (m * (n + 1)) (.tuple ds) := by
  obtain ⟨h1, h2, h3, h4, h5⟩ := Fit.all h
  refine ⟨h1, h2, h3, ?_, Nat.le_trans h5 (Nat.mul_le_mul_right _ hm)⟩
  show PyData.depthAll ds + 1 ≤ _
  omega
theorem Fit.lst {k n m : Nat} {ds : List PyData} (h : ∀ d ∈ ds, Fit k n d) (hm : ds.length ≤ m) : Fit (k + 2) (m * (n + 1)) (.list ds) := by
  obtain ⟨h1, h2, h3, h4, h5⟩ := Fit.all h
  refine ⟨h1, h2, h3, ?_, Nat.le_trans h5 (Nat.mul_le_mul_right _ hm)⟩
  show PyData.depthAll ds + 1 ≤ _
  omega
theorem Fit.size {k n : Nat} {d : PyData} (f : Fit k n d) (hn : n ≤ 1000000) : d.shown.length ≤ sizeLine := by
  have h := PyData.shown_le 13 (by decide) d (PyData.leavesShort_of_canLay0 13 d f.lay f.int)
  have := f.wei
  have e : sizeLine = 16777216 := rfl
  omega
theorem Fit.shaped {k n : Nat} {d : PyData} (f : Fit k n d) (hk : k ≤ 60) (h : (∃ ds, d = .tuple ds) ∨ ∃ ds, d = .list ds) : SeqAt.shaped d = true := by
  rcases h with ⟨ds, rfl⟩ | ⟨ds, rfl⟩
  · show (PyData.canLayAll0 ds && decide (PyData.depthAll ds + 1 ≤ 64)) = true
    have h1 : PyData.canLayAll0 ds = true := f.lay
    have h2 : PyData.depthAll ds + 1 ≤ k := f.dep
    rw [h1, Bool.true_and, decide_eq_true_eq]; omega
  · show (PyData.canLayAll0 ds && decide (PyData.depthAll ds + 1 ≤ 64)) = true
    have h1 : PyData.canLayAll0 ds = true := f.lay
    have h2 : PyData.depthAll ds + 1 ≤ k := f.dep
    rw [h1, Bool.true_and, decide_eq_true_eq]; omega
section
variable {X : Cx} {j : Nat}
theorem call_reprF (gd : X.A.guards = some []) (room : Room j X.A) (K : PySem.W.Frag) (hK : X.K = K := by rfl) : CallR X (.builtin "repr") (fun xs H Q => ∃ (a : Addr) (d : PyData) (k n : Nat), xs = [.ref a] ∧ Dp K H (.ref a) d ∧ Fit k n d ∧ k ≤ 60 ∧ n ≤ 1000000 ∧ Q (.str d.shown) H) := by
  subst hK
  intro pins s σ H xs us Q I rel want
  obtain ⟨a, d, k, n, rfl, hd, f, hk, hn, q⟩ := want
  exact call_reprG gd room pins s σ H _ us Q I rel ⟨a, d, rfl, hd, f.sho, PyData.hasDict_of_canLay d f.lay, Nat.le_trans f.dep hk, f.size hn, q⟩
end
mutual
theorem Dp.same {K : PySem.W.Frag} {H H' : Hp} (s : Same H H') : ∀ {d : PyData} {v : V}, Dp K H v d → Dp K H' v d
  | .none, _, h => by cases h; exact .non
  | .bool _, _, h => by cases h; exact .bl _
  | .int _, _, h => by cases h; exact .int _
  | .str _, _, h => by cases h; exact .str _
  | .list _, _, h => by cases h with | lst q r => exact .lst (s.seq q) (DpAll.same s r)
  | .tuple _, _, h => by cases h with | tup q r => exact .tup (sm_seqT s q) (DpAll.same s r)
  | .dict _, _, h => by cases h
theorem DpAll.same {K : PySem.W.Frag} {H H' : Hp} (s : Same H H') : ∀ {ds : List PyData} {vs : List V}, DpAll K H vs ds → DpAll K H' vs ds
  | [], _, h => by cases h; exact .nil
  | _ :: _, _, h => by cases h with | cons q r => exact .cons (Dp.same s q) (DpAll.same s r)
end
theorem dpAll_get {K : PySem.W.Frag} {H : Hp} {α : Type} {f : α → V} {g : α → PyData} : ∀ {xs : List α}, (∀ x ∈ xs, Dp K H (f x) (g x)) → DpAll K H (xs.map f) (xs.map g)
  | [], _ => .nil
  | x :: xs, h => .cons (h x List.mem_cons_self) (dpAll_get fun y hy => h y (List.mem_cons_of_mem _ hy))
end LX
set_option maxHeartbeats 2000000
namespace LX
open PySem PySem.Spec PyProof.Rows L2 C8 SX
section
variable {X : Cx}
theorem pe_joinK (K : PySem.W.Frag) {o e : Expr} {to te : TE} {apos pos : Pos} (ho : PE X o to) (he : PE X e te) (hK : X.K = K := by rfl) (hs : starEach [e] X.env = [(false, eval e X.env)] := by rfl) (hbase : attributeBase o "join" X.env (eval o X.env) = eval o X.env := by rfl) (hline : (apos.endLine == pos.line) = true := by rfl) :
    PE X (.Call (.Attribute o "join" apos) [e] [] pos) (tM1 (fun x xs H Q => ∃ a p, ∃ ys : List Str, x = .str a ∧ xs = [.ref p] ∧ (SqL K H p (ys.map V.str) ∨ SqT K H p (ys.map V.str)) ∧
      (ys.map (·.length)).sum + ys.length * a.length ≤ 16777216 ∧ Q (.str (Txt.join a ys)) H) to te) := by subst hK; exact pe_join ho he hs hbase hline
end
def tJd (ts : List TE) : TE := fun σ H Q => tJs ts Str.empty σ H fun out H1 => Q (.str out) H1
theorem pe_joinedD {X : Cx} {v1 v2 : Expr} {rest : List Expr} {ts : List TE} {pos : Pos} (h : PJ X (v1 :: v2 :: rest) ts) : PE X (.JoinedStr (v1 :: v2 :: rest) pos) (tJd ts) := pe_joined h
theorem joinL_len {sep : List Nat} {m : Nat} : ∀ {ys : List (List Nat)}, (∀ y ∈ ys, y.length ≤ m) → (TL.joinL sep ys).length ≤ ys.length * (m + sep.length)
  | [], _ => by simp [TL.joinL]
  | [y], h => by
    have := h y List.mem_cons_self
    simp [TL.joinL]
    omega
  | y :: z :: ys, h => by
    have ih := joinL_len (sep := sep) (ys := z :: ys) fun x hx => h x (List.mem_cons_of_mem _ hx)
    have h1 := h y List.mem_cons_self
    have e : TL.joinL sep (y :: z :: ys) = y ++ sep ++ TL.joinL sep (z :: ys) := by simp [TL.joinL]
    rw [e, List.length_append, List.length_append, List.length_cons, Nat.add_mul]
    omega
theorem sum_lens {m : Nat} : ∀ {ys : List (List Nat)}, (∀ l ∈ ys, l.length ≤ m) → ((ys.map S).map (·.length)).sum ≤ ys.length * m
  | [], _ => by simp
  | y :: ys, h => by
    have ih := sum_lens (m := m) (ys := ys) fun l hl => h l (List.mem_cons_of_mem _ hl)
    have h0 := h y List.mem_cons_self
    simp only [List.map_cons, List.sum_cons, List.length_cons]
    rw [S_len, Nat.add_mul]
    omega
theorem joinS_ok {m n : Nat} {sep : List Nat} {ys : List (List Nat)} (h : ∀ l ∈ ys, l.length ≤ m) (hn : ys.length ≤ n) (hm : n * (m + sep.length) ≤ 16000000) : ((ys.map S).map (·.length)).sum + (ys.map S).length * (S sep).length ≤ 16777216 := by
  rw [S_len, List.length_map]
  have := sum_lens h
  have h2 : ys.length * (m + sep.length) ≤ n * (m + sep.length) := Nat.mul_le_mul_right _ hn
  rw [Nat.mul_add] at h2
  omega
end LX
set_option maxHeartbeats 2000000
namespace LX
open PySem PySem.Spec PyProof.Rows L2 C8 SX
section
variable {X : Cx} {k j : Nat} {C : Addr} {sp : Sp}
theorem met_runV {mth : Str} {pins : List (Addr × Obj)} {σ : L2.St} {H : Hp} {s : Shared} {A : Around} {a : Addr} {y : V} {u : Value} {Q : Value → Shared → Prop} (c : Met X.prog X.w X.K X.mg X.base k C mth sp []) (hr : Room k A) (hfr : A.frames = X.A.frames) (I : Inv X pins σ H s) (ry : RelV y u)
    {R : VK} (hsp : sp [.ref a, y] H R C8.E0) (hQ : ∀ v z H' s', Inv X pins σ H' s' → RelV z v → R z H' → Q v s') :
    ∃ f, PySem.W.findIn X.K (.ref C) mth = some (some (.ref f)) ∧ PySem.W.isFn X.K (.ref f) = true ∧ wpAny (model X.prog X.w) A (call (.ref f) [.ref a, u]) Q X.xe s := by
  obtain ⟨f, fd, ps, ds, hc, hm, F, hb, hd⟩ := c.ex
  refine ⟨f, hm.at_, hm.fn, ?_⟩
  have e0 : Env0 X.prog X.w X.K X.mg X.base A X.stack s H := by
    have e := I.env0
    exact ⟨by rw [hfr]; exact e.frames, e.mod, e.bs, e.bsz, e.funs, e.frf, e.hok, e.bare⟩
  have hds : ds = [] := by cases hd; rfl
  subst hds
  have hl := F.len _ _ _ _ hsp
  have r2 : Vals [V.ref a, y] [Value.ref a, u] := .cons rfl (.cons ry .nil)
  refine wpAny_call (codeAny_mono (F.run A X.stack s H ⟨[.ref a, u], []⟩ [.ref a, u] [.ref a, y] _ C8.E0 hr e0 (by
    have := hb s [.ref a, u] I.kIn (by simpa using hl)
    simpa using this) r2 hsp) fun r s' hq => ?_)
  cases r with
  | error e => exact C8.pass0 (E := C8.E0) pins σ H s e s' I hq
  | ok fl =>
    cases fl with
    | ret w =>
      obtain ⟨z, H', I', rz, q⟩ := I.after hq
      exact hQ w z H' s' I' rz q
    | next => exact False.elim hq
    | brk => exact False.elim hq
    | cont => exact False.elim hq
def rEqIV (K : PySem.W.Frag) (C : Addr) (sp : Sp) : R2 := fun x y H Q => ∃ a dx fs t, x = .ref a ∧ H a = some (.ins C dx fs) ∧ TyX K H y t ∧ PySem.W.notFirst K C t = true ∧ sp [.ref a, y] H (fun v H' => ∃ r, v = .bl r ∧ Q (.bl r) H') C8.E0
theorem op_eqIV (c : Met X.prog X.w X.K X.mg X.base k C "__eq__" sp []) (hr : Room j X.A) (hk : k ≤ j) : OpR X (compareOp .Eq) (rEqIV X.K C sp) := by
  intro pins s σ H x y v u Q I rx ry h
  obtain ⟨a, dx, fs, t, rfl, ha, hty, hnf, hsp⟩ := h
  cases rx
  obtain ⟨mA, J, _⟩ := ins_get I.hok ha
  obtain ⟨od, J, _⟩ := J.look
  obtain ⟨m, hF⟩ := I.fr
  obtain ⟨P, kx, hP, _⟩ := kit_of I ry hty
  obtain ⟨f, hs, hf, hw⟩ := met_runV (Q := PySem.W.CmpBack (EP X pins σ Q)) c (hr.mono hk) rfl I ry hsp (fun v z H' s' I' rz q => by
    obtain ⟨r, rfl, q⟩ := q
    cases rz
    exact ⟨.bl r, H', I', rfl, q⟩)
  exact PySem.W.cmp_K (op := .Eq) (tb := t) hr.units0 hF I.ok.mod.kin J (kx.ty _ _ I.kIn hP) hnf hs hf hw
theorem op_eqDK (K : PySem.W.Frag) (hr : Room j X.A) (h : X.K = K := by rfl) : OpR X (compareOp .Eq) (rEqD K) := by subst h; exact op_eqD hr.units
theorem op_neDK (K : PySem.W.Frag) (hr : Room j X.A) (h : X.K = K := by rfl) : OpR X (compareOp .NotEq) (rNeD K) := by subst h; exact op_neD hr.units
end
def tD (xs : List (List Nat)) : PyData := .tuple (xs.map fun l => .str (S l))
def ttD (xss : List (List (List Nat))) : PyData := .tuple (xss.map tD)
theorem dp_t {K : PySem.W.Frag} {H : Hp} {a : Addr} {xs : List (List Nat)} (h : SqT K H a (txs xs)) : Dp K H (.ref a) (tD xs) := .tup h (dp_strs xs)
theorem eqv_t (xs ys : List (List Nat)) : PyData.eqv (tD xs) (tD ys) = decide (xs = ys) := eqv_strs xs ys
theorem eqv_tts : ∀ xss yss : List (List (List Nat)), PyData.eqvAll (xss.map tD) (yss.map tD) = decide (xss = yss)
  | [], [] => rfl
  | [], _ :: _ => rfl
  | _ :: _, [] => rfl
  | x :: xs, y :: ys => by
    show (PyData.eqv (tD x) (tD y) && PyData.eqvAll (xs.map tD) (ys.map tD)) = _
    rw [eqv_t, eqv_tts xs ys, ← Bool.decide_and]
    exact decide_eq_decide.mpr (by rw [List.cons.injEq])
theorem eqv_tt (xss yss : List (List (List Nat))) : PyData.eqv (ttD xss) (ttD yss) = decide (xss = yss) := eqv_tts xss yss
theorem fit_t {m n : Nat} {xs : List (List Nat)} (hs : Small xs) (hl : ∀ l ∈ xs, l.length ≤ n) (hm : xs.length ≤ m) : Fit 2 (m * (n + 1)) (tD xs) :=
  Fit.tup (k := 0) (n := n) (fun d hd => by obtain ⟨l, hl', rfl⟩ := List.mem_map.mp hd; exact Fit.text (hs l hl') (hl l hl')) (by rw [List.length_map]; exact hm)
theorem fit_tt {m n p : Nat} {xss : List (List (List Nat))} (h : ∀ xs ∈ xss, Small xs ∧ (∀ l ∈ xs, l.length ≤ n) ∧ xs.length ≤ m) (hp : xss.length ≤ p) : Fit 4 (p * (m * (n + 1) + 1)) (ttD xss) :=
  Fit.tup (k := 2) (fun d hd => by obtain ⟨xs, hx, rfl⟩ := List.mem_map.mp hd; obtain ⟨h1, h2, h3⟩ := h xs hx; exact fit_t h1 h2 h3) (by rw [List.length_map]; exact hp)
end LX
set_option maxHeartbeats 1000000
namespace LX
open PySem PySem.Spec PyProof.Rows L2 C8 SX
section
variable {X : Cx} {K : PySem.W.Frag} {H : Hp}
def inz (xs : List Int) : List V := xs.map V.int
theorem inz_len (xs : List Int) : (inz xs).length = xs.length := List.length_map ..
theorem dp_inz : ∀ xs : List Int, DpAll K H (inz xs) (xs.map PyData.int)
  | [] => .nil
  | x :: xs => .cons (.int _) (dp_inz xs)
theorem lay_inz : ∀ xs : List Int, PyData.canLayAll0 (xs.map PyData.int) = true ∧ PyData.depthAll (xs.map PyData.int) ≤ 1
  | [] => ⟨rfl, Nat.zero_le _⟩
  | x :: xs => by
    obtain ⟨h1, h2⟩ := lay_inz xs
    refine ⟨?_, ?_⟩
    · show (PyData.canLay0 (.int x) && PyData.canLayAll0 (xs.map PyData.int)) = true
      rw [h1, Bool.and_true]; rfl
    · show max (PyData.depth (.int x)) (PyData.depthAll (xs.map PyData.int)) ≤ 1
      have e : PyData.depth (.int x) ≤ 1 := Nat.zero_le _
      omega
theorem shaped_inz (xs : List Int) : SeqAt.shaped (.list (xs.map PyData.int)) = true := by
  obtain ⟨h1, h2⟩ := lay_inz xs
  show (PyData.canLayAll0 _ && decide (PyData.depthAll _ + 1 ≤ 64)) = true
  rw [h1, Bool.true_and, decide_eq_true_eq]; omega
def rNeE : R2 := fun x y H Q => ∃ (a b : Addr) (xs : List Int), x = .ref a ∧ y = .ref b ∧ H a = some (.lst (inz xs)) ∧ H b = some (.lst []) ∧ Q (.bl (!xs.isEmpty)) H
theorem op_neE {k : Nat} (hr : Room k X.A) : OpR X (compareOp .NotEq) rNeE := by
  intro pins s σ H x y v u Q I rx ry h
  obtain ⟨a, b, xs, rfl, rfl, ha, hb, q⟩ := h
  refine op_neD hr.units pins s σ H _ _ v u Q I rx ry ⟨_, _, .lst (SqL.of ha) (dp_inz xs), .lst (SqL.of hb) .nil, shaped_inz xs, shaped_inz [], ?_⟩
  cases xs with
  | nil => exact q
  | cons x xs => exact q
theorem at_last {xs : List V} {v : V} (h : 0 < xs.length) (e : xs[xs.length - 1]? = some v) : atI xs (-1) = some v := by
  have : ixN xs.length (-1) = some (xs.length - 1) := by
    unfold ixN
    rw [if_neg (by decide), if_pos (by omega)]
    congr 1; omega
  unfold atI
  rw [this]; exact e
def SeqV (K : PySem.W.Frag) (H : Hp) (x : V) (ys : List V) : Prop :=
  (∃ p, x = .ref p ∧ (SqL K H p ys ∨ SqT K H p ys)) ∨ ∃ l : List Nat, x = .str (S l) ∧ l.length ≤ sizeLine ∧ ys = l.map fun c => V.str (S [c])
def rLenA (K : PySem.W.Frag) : List V → Hp → VK → Prop := fun xs H Q => ∃ x ys, xs = [x] ∧ SeqV K H x ys ∧ Q (.int ys.length) H
theorem lenA (K : PySem.W.Frag) (h : X.K = K := by rfl) : CallR X (.builtin "len") (rLenA K) := by
  subst h
  intro pins s σ H xs us Q I r q
  obtain ⟨x, ys, rfl, hh, q⟩ := q
  rcases hh with ⟨p, rfl, hp⟩ | ⟨l, rfl, hl, rfl⟩
  · exact lenK X.K rfl pins s σ H _ us Q I r ⟨p, ys, rfl, hp, q⟩
  · refine call_len_str pins s σ H _ us Q I r ⟨S l, rfl, by rw [S_len]; exact hl, ?_⟩
    rw [S_len]
    rw [List.length_map] at q
    exact q
def rIxA (K : PySem.W.Frag) : R2 := fun x y H Q => ∃ ys i v, y = .int i ∧ SeqV K H x ys ∧ atI ys i = some v ∧ Q v H
theorem ixA (K : PySem.W.Frag) (h : X.K = K := by rfl) : IxR X (rIxA K) := by
  subst h
  intro value slice pins s σ H x y v u Q I rx ry q hs
  obtain ⟨ys, i, w, rfl, hh, ha, q⟩ := q
  refine ix_seq value slice pins s σ H x (.int i) v u Q I rx ry ?_ hs
  rcases hh with ⟨p, rfl, hp | hp⟩ | ⟨l, rfl, hl, rfl⟩
  · exact .inl ⟨p, ys, i, w, rfl, rfl, hp, ha, q⟩
  · exact .inr (.inl ⟨p, ys, i, w, rfl, rfl, hp, ha, q⟩)
  · have e : ∀ j, (l.map fun c => V.str (S [c]))[j]? = (l[j]?).map fun c => V.str (S [c]) := fun j => List.getElem?_map ..
    have e2 : atI l i = none ∧ w = w ∨ ∃ c, atI l i = some c ∧ w = .str (S [c]) := by
      unfold atI at ha ⊢
      rw [List.length_map] at ha
      cases hx : ixN l.length i with
      | none => rw [hx] at ha; cases ha
      | some j =>
        rw [hx] at ha
        have ha : (l.map fun c => V.str (S [c]))[j]? = some w := ha
        rw [e] at ha
        cases hc : l[j]? with
        | none => rw [hc] at ha; cases ha
        | some c => rw [hc] at ha; exact .inr ⟨c, hc, (Option.some.inj ha).symm⟩
    rcases e2 with ⟨e3, _⟩ | ⟨c, e3, rfl⟩
    · exfalso
      unfold atI at ha e3
      rw [List.length_map] at ha
      cases hx : ixN l.length i with
      | none => rw [hx] at ha; cases ha
      | some j =>
        rw [hx] at ha e3
        have ha : (l.map fun c => V.str (S [c]))[j]? = some w := ha
        have e3 : l[j]? = none := e3
        rw [e, e3] at ha; cases ha
    · exact .inr (.inr ⟨S l, i, c, rfl, rfl, by rw [S_len]; exact hl, e3, q⟩)
theorem le1000 {n : Nat} (h : n ≤ 1000) : n ≤ sizeLine := Nat.le_trans h (by decide)
theorem inz_get {cs : List Int} {i : Nat} {x : V} (h : (inz cs)[i]? = some x) : ∃ z, cs[i]? = some z ∧ x = .int z := by
  unfold inz at h
  rw [List.getElem?_map] at h
  cases q : cs[i]? with
  | none => rw [q] at h; cases h
  | some l => rw [q] at h; exact ⟨l, rfl, (Option.some.inj h).symm⟩
theorem inz_of : ∀ {ys : List V}, (∀ (j : Nat) y, ys[j]? = some y → ∃ z : Int, y = .int z) → ∃ cs : List Int, ys = inz cs
  | [], _ => ⟨[], rfl⟩
  | y :: ys, h => by
    obtain ⟨z, rfl⟩ := h 0 y rfl
    obtain ⟨cs, rfl⟩ := inz_of (ys := ys) fun j z q => h (j + 1) z q
    exact ⟨z :: cs, rfl⟩
theorem nxt {D : Ends} {σ : L2.St} {H : Hp} (h : D.nx σ H) : tNext D σ H := h
end
end LX
set_option maxHeartbeats 4000000
namespace LX
open PySem PySem.Spec PyProof.Rows L2 C8 SX
section
variable {prog : Program} {w : World} {A : Around} {R : Result → Shared → Prop} {I S : Addr} {fp wr : List Addr} {G : Array GenState → Array GenState → Prop} {n : Nat} {P : Nat → Value → Prop} {St : Nat → Shared → Prop}
def cntT (xs : List Str) : Nat → Nat
  | 0 => 0
  | i + 1 => if (xs.take i).contains (xs.getD i default) then cntT xs i else cntT xs i + 1
theorem cntT_succ {xs : List Str} {i : Nat} {x : Str} (h : xs[i]? = some x) : (if decide (x ∈ xs.take i) = true then cntT xs i else cntT xs i + 1) = cntT xs (i + 1) := by
  have e : xs.getD i default = x := by rw [List.getD_eq_getElem?_getD, h]; rfl
  show _ = if (xs.take i).contains (xs.getD i default) then cntT xs i else cntT xs i + 1
  rw [e]
  by_cases q : x ∈ xs.take i <;> simp [q]
theorem cntT_le (xs : List Str) : ∀ i, cntT xs i ≤ i
  | 0 => Nat.le_refl _
  | i + 1 => by
    have := cntT_le xs i
    unfold cntT
    split <;> omega
abbrev ElemG (prog : Program) (w : World) (xs : List Str) (i : Nat) (S : Addr) (h : Heap) : Prop := h.SetOf (PySem.strKind prog w) S (fun k => decide (k ∈ xs.take i)) (cntT xs i)
theorem ElemG.stay {xs : List Str} {i : Nat} {h h' : Heap} (e : ElemG prog w xs i S h) (k : ∀ o, h.get? S = some o → h'.get? S = some o) : ElemG prog w xs i S h' :=
  let ⟨o, es, ep, tb, ho, rest⟩ := e; ⟨o, es, ep, tb, k o ho, rest⟩
theorem set_loopG (W : WalksS prog w A.in1 I fp wr G n P St) (off : S ∉ fp) {xs : List Str} (hl : xs.length = n) (room : n < scanBound) (val : ∀ i v, P i v → ∃ x t, xs[i]? = some x ∧ v = .str x t) :
    ∀ (k i : Nat) (s : Shared), i + k = n → St i s → ElemG prog w xs i S s.heap → (∀ s', Moved (S :: wr) G s s' → ElemG prog w xs n S s'.heap → R (.ok (.ret .none)) s') →
      codeAny (model prog w) A (.builtin "set.update.loop" ⟨[.ref S, .ref I], []⟩) R s
  | 0, i, s, hk, hst, he, hR => by
    obtain rfl : i = n := hk
    refine codeAny_builtin PyProof.Rows.F.entry_set_update_loop ?_
    rw [Around.under_plainId PyProof.Rows.F.plain_set_update_loop _]
    refine wpAny_bind (W.done s _ _ hst fun s' hm => wpAny_pure (hR s' (hm.mono fun b hb => List.mem_cons_of_mem _ hb) (he.stay fun o e => hm.heap S o (fun h => off (W.sub _ h)) e)))
  | k + 1, i, s, hk, hst, he, hR => by
    refine codeAny_builtin PyProof.Rows.F.entry_set_update_loop ?_
    rw [Around.under_plainId PyProof.Rows.F.plain_set_update_loop _]
    refine wpAny_bind (W.item i s _ _ (by omega) hst fun v s' hP hst' hm => ?_)
    obtain ⟨x, t, hx, rfl⟩ := val i v hP
    have he' : ElemG prog w xs i S s'.heap := he.stay fun o e => hm.heap S o (fun h => off (W.sub _ h)) e
    show wpAny _ A.in1 (holding [Value.str x t] (setAdd S (.str x t)) >>= _) _ _ s'
    refine wpAny_bind (wpAny_holding ?_)
    unfold setAdd
    refine wpAny_holding (wpAny_bind ((PySem.strKind prog w).pyHash (k := x) (strKind_is _ _ _ _) ?_))
    refine wpAny_setAddHashed_of (knd := PySem.strKind prog w) (s := { s' with toks := s'.toks + 1 }) (strKind_is _ _ _ _) rfl he' (by have := cntT_le xs i; omega) fun h' hsb hS2 => ?_
    have he2 : ElemG prog w xs (i + 1) S h' := SetOf_congr hS2 (fun y => by rw [take_more hx]; by_cases e : y ∈ xs.take i <;> by_cases e2 : y = x <;> simp [e, e2]) (cntT_succ hx)
    refine wpAny_pure ⟨plainId_quiet PyProof.Rows.F.plain_set_update_loop _, set_loopG W off hl room val k (i + 1) _ (by omega) (W.frame _ s' _ _ hst' (Nat.le_succ _) fun b hb o e => ?_) he2 fun s2 hm2 he3 => ?_⟩
    · rw [hsb.2 b (fun h => off (h ▸ hb))]; exact e
    · refine hR s2 (Moved.trans W.gtrans ((hm.mono fun b hb => List.mem_cons_of_mem _ hb).then_heap (Nat.le_succ _) fun b o hb e => ?_) hm2) he3
      rw [hsb.2 b (fun h => hb (by rw [h]; exact List.mem_cons_self))]; exact e
end
section
variable {prog : Program} {w : World} {A : Around} {E : Value → Shared → Prop} {s : Shared}
theorem set_of_listG {l : Addr} {items : Array Value} {xs : List Str} {Q : Value → Shared → Prop} (hh : A.handled = none) (hl : s.heap.IsList l items) (hi : PyProof.Rows.StrsAre items.toList xs) (room : xs.length < scanBound)
    (h : ∀ (h' : Heap) (tk : Nat), ElemG prog w xs xs.length s.heap.objs.size h' → (∀ b o, s.heap.get? b = some o → h'.get? b = some o) → Q (.ref s.heap.objs.size) { s with heap := h', toks := tk }) :
    wpAny (model prog w) A (call (.type "set") [.ref l]) Q E s := by
  obtain ⟨c, tl, hmro⟩ := PySem.F.called_set.mro
  have hmade := PySem.F.called_set.made
  have hsub := PySem.F.called_set.sub
  refine wpAny_call (codeAny_of_tree ?_)
  refine wpAny_pure ⟨Code.quiet_builtin _ (by decide +kernel), codeAny_builtin PySem.F.entry_type_call ?_⟩
  rw [Around.under_plain (weight_type_call_type "set" [.ref l] []) rfl]
  have nt := PySem.F.called_set.notType
  have cc := PySem.F.called_set.canCreate
  have ct := PySem.F.typeCall_set_1 (.ref l)
  repeat (any_goals (first | assumption | wp_step))
  refine codeAny_mono (code_set_new_1 (.ref l) (E := E) (Q₁ := fun obj s1 => ∃ led : Bool, obj = .ref s.heap.objs.size ∧ s1 = { s with heap := s.heap.push { cls := .type "set", dict := none, data := .set #[] 0 (.fresh 0 0 led) } }) fun led => ⟨led, rfl, rfl⟩) fun r s1 hr => ?_
  match r, hr with
  | .ok (.ret obj), hr =>
    obtain ⟨led, rfl, rfl⟩ := hr
    have hS : (s.heap.push (setO led)).get? s.heap.objs.size = some (setO led) := Heap.get?_push_size _ rfl
    have hTy : Shared.TypeIs { s with heap := s.heap.push (setO led) } (.ref s.heap.objs.size) "set" := ⟨_, hS, rfl⟩
    have li := PySem.F.called_set.init.lookup
    have bi := PySem.F.called_set.init.bind (.ref s.heap.objs.size)
    repeat (any_goals (first | assumption | wp_step))
    refine codeAny_mono (codeAny_call_builtin (R := wants (fun r s2 => r = .none ∧ ∃ h' tk, s2 = { s with heap := h', toks := tk } ∧ ElemG prog w xs xs.length s.heap.objs.size h' ∧ (∀ b o, s.heap.get? b = some o → h'.get? b = some o)) E)
      PySem.F.called_set.init.plain PySem.F.entry_set_init (check_set_init_1 hTy ?_)) fun r2 s2 hr2 => ?_
    · obtain ⟨⟨oc, od, odt, osl⟩, hol, hcl, nl, hdl⟩ := hl
      dsimp only at hcl hdl
      subst hcl hdl
      have hol' : (s.heap.push (setO led)).get? l = some { cls := .type "list", dict := od, data := .seq items nl, slots := osl } := Heap.get?_push_of_some _ hol
      have ss := PySem.F.sub_list_set
      have sf := PySem.F.sub_list_frozenset
      have ne : (Value.type "list" == Value.type "dict") = false := by decide
      have hl1 : (s.heap.push (setO led)).IsList l items := ⟨_, hol', rfl, nl, rfl⟩
      unfold Builtin.«set.__init__» noKeywords Builtin.Frozenset.updateFrom
      generalize hPI : pyIter = PI
      wp_walk
      subst hPI
      refine wpAny_pyIter_list hl1 ?_
      refine wpAny_bind (wpAny_runValue ?_)
      have hlS : l < s.heap.objs.size := Heap.lt_size hol
      have hz : (s.heap.push (setO led)).objs.size = s.heap.objs.size + 1 := Heap.size_push ..
      have neI : l ≠ (s.heap.push (setO led)).objs.size := by rw [hz]; exact Nat.ne_of_lt (Nat.lt_succ_of_lt hlS)
      have off : s.heap.objs.size ∉ [(s.heap.push (setO led)).objs.size, l] := by
        rw [hz]; simp only [List.mem_cons, List.not_mem_nil, or_false, not_or]
        exact ⟨Nat.ne_of_lt (Nat.lt_succ_self _), Nat.ne_of_gt hlS⟩
      have hsz : xs.length = items.size := by rw [← StrsAre.len_eq hi, Array.length_toList]
      refine set_loopG (xs := xs) ((Walks.list (A := A.in1.in1.in1) (by simp [hh]) _ l neI items).toS) off hsz (by rw [← hsz]; exact room) (fun i v hv => ?_) items.size 0 _ (Nat.zero_add _) ⟨⟨_, Heap.get?_push_size _ rfl, rfl, rfl⟩, hl1.push _⟩ ?_ fun s' hm hS' => ?_
      · obtain ⟨t, e⟩ := SS.strs_at hi i v (by rw [Array.getElem?_toList]; exact hv)
        have hlt : i < xs.length := by rw [hsz]; exact (Array.getElem?_eq_some_iff.mp hv).1
        exact ⟨xs[i], t, List.getElem?_eq_getElem hlt, by rw [e, List.getD_eq_getElem?_getD, List.getElem?_eq_getElem hlt]; rfl⟩
      · exact PyProof.Rows.SetOf_congr ((PyProof.Rows.setObjOf_fresh (knd := PySem.strKind prog w) led).setOf (Heap.get?_push_of_some _ hS) (by unfold scanBound; omega)) (fun _ => by simp) rfl
      · obtain ⟨h', g', d', tk', os'⟩ := s'
        obtain rfl : g' = s.gens := hm.gens
        obtain rfl : d' = s.drawn := hm.drawn
        obtain rfl : os' = s.os := hm.os
        refine wpAny_pure (wpAny_pure ⟨rfl, h', tk', rfl, by rw [hsz]; exact hS', fun b o e => ?_⟩)
        have hb : b < s.heap.objs.size := Heap.lt_size e
        refine hm.heap b o (fun hmem => ?_) (Heap.get?_push_of_some _ (Heap.get?_push_of_some _ e))
        have e' : b = s.heap.objs.size ∨ b = (s.heap.push (setO led)).objs.size := by simpa using hmem
        rcases e' with e' | e'
        · exact Nat.ne_of_lt hb e'
        · rw [hz] at e'; exact Nat.ne_of_lt (Nat.lt_succ_of_lt hb) e'
    · match r2, hr2 with
      | .ok (.ret r), hr2 =>
        obtain ⟨rfl, h', tk, rfl, hS', hk'⟩ := hr2
        repeat (any_goals (first | assumption | wp_step))
        exact h _ _ hS' hk'
      | .error e, hr2 => exact hr2
  | .error e, hr => exact hr
end
section
variable {X : Cx}
def tLenSetG (K : PySem.W.Frag) (ta : TE) : TE := fun σ H Q => ta σ H fun x H1 => ∃ (l : Addr) (xs : List (List Nat)), x = V.ref l ∧ SqL K H1 l (txs xs) ∧ xs.length < 60 ∧ Q (.int (cntT (xs.map S) xs.length : Nat)) H1
theorem pe_lenSetG {a : Expr} {ta : TE} {p p2 q pos : Pos} (hc : X.calm = true) (hg : Gl X "len") (hm : X.mg "len" = none) (hg2 : Gl X "set") (hm2 : X.mg "set" = none) (ha : PE X a ta)
    (na : starEach [a] X.env = (false, eval a X.env) :: starEach [] X.env := by rfl) : PE X (.Call (.Name "len" p) [.Call (.Name "set" p2) [a] [] q] [] pos) (tLenSetG X.K ta) := by
  refine ⟨fun pins s σ H Q I h => ?_⟩
  refine Call_ (ld_blt I hg hm PySem.boot_len (PyProof.Rows.callWith_builtin1 (PyProof.Rows.args_cons ?_ rfl) rfl rfl))
  refine Call_ (ld_blt I hg2 hm2 PyProof.Rows.boot_set (PyProof.Rows.callWith_type1 (PyProof.Rows.args_cons (thn (ha.run pins s σ H _ I h) fun v s1 ⟨x, H1, I1, r1, q1⟩ => PyProof.Rows.args_nil ?_) na) na rfl))
  obtain ⟨l, xs, rfl, hq, h1, q1⟩ := q1
  cases r1
  have e0 : txs xs = (xs.map S).map V.str := by unfold txs; rw [List.map_map]; rfl
  have room : (xs.map S).length < scanBound := by rw [List.length_map]; unfold scanBound; omega
  rw [e0] at hq
  obtain ⟨its, r, pl, hz⟩ := I1.list hq
  refine set_of_listG (I1.ok.hd hc) pl.isList (by simpa using strsAre_of r) room fun h' tk hS hk => ?_
  refine PyProof.Rows.args_nil ?_
  obtain ⟨o, es, ep, t, ho, hex, hd, _, _, _, hf, hn⟩ := hS
  have I2 : Inv X pins σ H1 { s1 with heap := h', toks := tk } := I1.kept hk
  rw [List.length_map] at hn
  have := cntT_le (xs.map S) xs.length
  exact call_len_set ho hex hd hf (by rw [hn]; omega) ⟨.int (cntT (xs.map S) xs.length : Nat), H1, I2.tok _, ⟨_, by rw [hn]⟩, q1⟩
end
end LX
set_option maxHeartbeats 4000000
namespace EV
open PySem PySem.HandSPX
open Builtin Builtin.ObjectAttr
section
variable {M : Model} {A : Around} {E : Value → Shared → Prop} {h : Heap} {g : Array GenState} {d : Drawn} {t : Nat} {os : OsState}
variable {nm q : Str} {C N : Addr} {bs bm bmB : List Value} {hdct : Bool} {sn : List Str} {sub : List Value} {ab : Bool} {col : Option Bool} {dd : Option Addr} {k0 k1 k2 k3 k5 : Option Value} {B newId initId : String}
theorem check_new_kw (F : ExcBaseFacts B newId initId bmB) (hB : bm.contains (.type B) = true) {rest : List Value} {kw : List (Str × Value)} {Q : Unit → Shared → Prop}
    (hC : h.get? C = some (excClassObj nm q C N bs bm hdct sn sub ab col dd k0 k1 k2 k3 k5 newId)) (hq : Q () ⟨h, g, d, t, os⟩) : wpAny M A (checkBuiltinCall newId ⟨.ref C :: rest, kw⟩) Q E ⟨h, g, d, t, os⟩ := by
  have hcont : (Value.ref C :: bm).contains (.type B) = true := by rw [List.contains_cons, hB, Bool.or_true]
  have hstar := F.noStar
  simp only [checkBuiltinCall, F.newKind, F.newSplit, F.newRow]
  repeat (first | refine wpAny_loadPart_at hC ?_ | (refine wpAny_isSubtype_exc hC ?_; rw [hcont]) | refine wpAny_staticBase_exc hC ?_ | refine wpAny_madeBy_exc hC ?_ | simp only [bne_self_eq_false, Bool.false_eq_true, if_false] | wp_step)
  exact hq
end
section
variable {prog : Program} {w : World} {A : Around} {E : Value → Shared → Prop} {R : Result → Shared → Prop} {h : Heap} {g : Array GenState} {d : Drawn} {t : Nat} {os : OsState}
variable {nm q : Str} {C N : Addr} {bs bm bmB : List Value} {hdct : Bool} {sn : List Str} {sub : List Value} {ab : Bool} {col : Option Bool} {dd : Option Addr} {k0 k1 k2 k3 k5 : Option Value} {B newId initId : String}
theorem new_kw (F : ExcBaseFacts B newId initId bmB) (hB : bm.contains (.type B) = true) (hA : bm.contains (.type "AttributeError") = false) (hN : bm.contains (.type "NameError") = false) {rest : List Value} {kw : List (Str × Value)}
    (hC : h.get? C = some (excClassObj nm q C N bs bm hdct sn sub ab col dd k0 k1 k2 k3 k5 newId))
    (hq : R (.ok (.ret (.ref (h.objs.size + 1)))) ⟨(h.push { cls := .type "tuple", data := .seq rest.toArray }).push
      { cls := .ref C, data := .fields #[.ref h.objs.size, .none, .none, .none, .bool false, .none] }, g, d, t, os⟩) (hrest : rest.length ≤ sizeLine) :
    codeAny (model prog w) A (.builtin newId ⟨.ref C :: rest, kw⟩) R ⟨h, g, d, t, os⟩ := by
  have hends := F.ends
  have hcB : (Value.ref C :: bm).contains (.type B) = true := by rw [List.contains_cons, hB, Bool.or_true]
  have hcA : (Value.ref C :: bm).contains (.type "AttributeError") = false := by rw [List.contains_cons, hA]; rfl
  have hcN : (Value.ref C :: bm).contains (.type "NameError") = false := by rw [List.contains_cons, hN]; rfl
  refine codeAny_builtinAt F.entry ?_
  unfold Builtin.«BaseException.__new__»
  refine wpAt_bind ?_
  show wpAt _ _ _ (stack >>= _) _ _ _
  refine wpAt_bind (wpAt_stack fun p below => wpAt_of_wpAny ?_)
  wp_walk
  refine wpAt_of_wpAny ?_
  rw [F.owner]
  repeat (first | with_reducible refine wpAny_madeHere_exc F.canon hC ?_ | with_reducible refine wpAny_loadPart_at hC ?_ | (with_reducible refine wpAny_isSubtype_exc hC ?_; first | rw [hcB] | rw [hcA] | rw [hcN]) | wp_step)
  show R _ _
  rw [Heap.size_push]
  exact hq
theorem type_call_kw (F : ExcBaseFacts B newId initId bmB) (hB : bm.contains (.type B) = true) (hA : bm.contains (.type "AttributeError") = false) (hN : bm.contains (.type "NameError") = false) {rest : List Value} {kw : List (Str × Value)} {fI : Addr} {Q : Fin → Shared → Prop}
    (hC : h.get? C = some (excClassObj nm q C N bs bm hdct sn sub ab col dd k0 k1 k2 k3 k5 newId))
    (hi : W.Looks (model prog w) h (typeLookup (.ref C) "__init__") (some (.ref fI))) (hb : ∀ self, W.Looks (model prog w) h (bindSpecial (.ref fI) self) (.ref fI, [self])) (hrest : rest.length ≤ sizeLine)
    (hq : codeAny (model prog w) A (.call (.ref fI) ⟨.ref (h.objs.size + 1) :: rest, kw⟩)
      (fun r s' => match r with | .ok (.ret v) => v = .none ∧ Q (.done (.ret (.ref (h.objs.size + 1)))) s' | .ok _ => False | .error e => E e s')
      ⟨(h.push (W.kdv_tup rest)).push (excO C h.objs.size), g, d, t, os⟩) :
    wpAny (model prog w) A (Builtin.«type.__call__» ⟨.ref C :: rest, kw⟩) Q E ⟨h, g, d, t, os⟩ := by
  repeat (first | with_reducible refine wpAny_loadPart_at hC ?_ | with_reducible refine wpAny_madeBy_exc hC ?_ | wp_step)
  refine codeAny_call_builtin_code (Code.quiet_builtin _ F.quiet) (check_new_kw F hB hC ?_)
  refine new_kw F hB hA hN hC ?_ hrest
  show wpAny _ _ _ _ _ _
  have k : ∀ b o, h.get? b = some o → ((h.push (W.kdv_tup rest)).push (excO C h.objs.size)).get? b = some o := fun b o e => Heap.get?_push_of_some _ (Heap.get?_push_of_some _ e)
  have hC₁ := k _ _ hC
  have hget : ((h.push (W.kdv_tup rest)).push (excO C h.objs.size)).get? (h.objs.size + 1) = some (excO C h.objs.size) := by heap_get
  have hcC : (Value.ref C :: bm).contains (.ref C) = true := by simp
  have i1 := hi.keeps k
  have b1 := (hb (.ref (h.objs.size + 1))).keeps k
  unfold isInstance
  repeat (first | with_reducible refine wpAny_loadPart_at hget ?_ | (with_reducible refine wpAny_isSubtype_exc hC₁ ?_; rw [hcC]) | wp_step)
  show wpAny _ _ (typeLookup (.ref C) _) _ _ _
  refine i1.at ?_
  refine wpAny_holding (wpAny_bind (b1.at ?_))
  refine wpAny_bind (wpAny_call (codeAny_mono hq fun r s' z => ?_))
  rcases r with e | (v | _ | _ | _) <;> first | exact z | exact z.elim | skip
  obtain ⟨rfl, z⟩ := z
  first
    | exact wpAny_pure (wpAny_pure z)
    | (wp_walk; exact z)
theorem call_kw (F : ExcBaseFacts B newId initId bmB) (hB : bm.contains (.type B) = true) (hA : bm.contains (.type "AttributeError") = false) (hN : bm.contains (.type "NameError") = false) {rest : List Value} {kw : List (Str × Value)} {fI : Addr}
    (hC : h.get? C = some (excClassObj nm q C N bs bm hdct sn sub ab col dd k0 k1 k2 k3 k5 newId))
    (hi : W.Looks (model prog w) h (typeLookup (.ref C) "__init__") (some (.ref fI))) (hb : ∀ self, W.Looks (model prog w) h (bindSpecial (.ref fI) self) (.ref fI, [self])) (hrest : rest.length ≤ sizeLine)
    (hq : codeAny (model prog w) (A.under (.builtin "type.__call__" ⟨.ref C :: rest, kw⟩)) (.call (.ref fI) ⟨.ref (h.objs.size + 1) :: rest, kw⟩) (W.InitBack (h.objs.size + 1) R)
      ⟨(h.push (W.kdv_tup rest)).push (excO C h.objs.size), g, d, t, os⟩) :
    codeAny (model prog w) A (.call (.ref C) ⟨rest, kw⟩) R ⟨h, g, d, t, os⟩ := by
  have f1 := tc_lookup
  have f2 := tc_bind (.ref C)
  have hTy : (⟨h, g, d, t, os⟩ : Shared).TypeIs (.ref C) "type" := ⟨_, hC, rfl⟩
  refine codeAny_of_tree ?_
  show wpAny _ _ (callAny (.ref C) _) _ _ _
  repeat (any_goals (first | assumption | with_reducible refine wpAny_loadPart_at hC ?_ | wp_step))
  refine ⟨rfl, ?_⟩
  refine codeAny_call_builtin_at (Code.quiet_builtin _ (by decide +kernel)) entry_typeCall (wpAny_check_type_call_sub hC (type_call_kw F hB hA hN hC hi hb hrest ?_))
  refine codeAny_mono hq fun r s' z => ?_
  rcases r with e | (v | _ | _ | _) <;> exact z
end
section
variable {prog : Program} {w : World} {A : Around} {E : Value → Shared → Prop} {R : Result → Shared → Prop} {hp : Heap} {g : Array GenState} {d : Drawn} {t : Nat} {os : OsState}
theorem exc_osaG {K : W.Frag} {name : Str} {tk : Tok} {v : Value} {x C : Addr} {fv : Array Value} {cd : ClassData}
    (X : K.In hp) (hx : hp.get? x = some { cls := .ref C, data := .fields fv }) (hcd : W.clsIn K C = some cd) (hm : ∀ self, refuseLoop self "__setattr__" cd.mro = pure ()) (ne : cd.mro.isEmpty = false) (hob : cd.mro.contains (.type "object") = true) (hh : cd.hasDict = true) (ha : W.findIn K (.ref C) name = some none)
    (hq : ∀ h' tk' dx, (∀ b o, b ≠ x → hp.get? b = some o → h'.get? b = some o) → hp.objs.size ≤ dx → dx ≠ x → h'.get? x = some { cls := .ref C, dict := some dx, data := .fields fv } →
      h'.Ns1 dx (fun y => if y = name then some v else none) → R (.ok (.ret .none)) ⟨h', g, d, tk', os⟩) :
    codeAny (model prog w) A (.call (.builtin "object.__setattr__") ⟨[.ref x, .str name tk, v], []⟩) R ⟨hp, g, d, t, os⟩ := by
  have I : W.InstAt hp x { cls := .ref C, data := .fields fv } C none := ⟨hx, rfl, rfl, trivial⟩
  have SF := F.store_object
  have hxs : x ≠ hp.objs.size := Nat.ne_of_lt (Heap.lt_size hx)
  have sub : W.Looks (model prog w) hp (isInstance (.ref x) (.type "object")) true := I.type.andThen (W.looks_mroIn X (by unfold W.mroIn; rw [hcd, Option.bind_some, if_neg (by rw [ne]; decide), hob]))
  refine codeAny_call_builtin SF.slot.plain SF.entry (@W.check_slot (model prog w) _ _ ⟨hp, g, d, t, os⟩ "object.__setattr__" "object" "__setattr__" (.ref x) [.str name tk, v] [] _ SF.kind SF.split sub (SF.args (.ref x) (.str name tk) v) ?_)
  have hmr : W.Looks (model prog w) hp (mroOf (.ref C)) cd.mro := (W.looks_clsIn X hcd).andThen .now
  have L3 : W.Looks (model prog w) hp (storeTaker? none) none := .now
  have hcls : W.Looks (model prog w) hp (classData C) cd := W.looks_clsIn X hcd
  rw [W.osa_eq, refuse_eq]
  refine wpAny_bind (wpAny_bind (I.type.at (wpAny_bind (hmr.at ?_))))
  rw [hm]
  refine wpAny_pure (wpAny_bind (I.type.at (wpAny_bind ((W.looks_findIn X ha).at (wpAny_bind (L3.at ?_))))))
  show wpAny _ _ (storeInOwnDict (.ref x) (.ref C) (.str name tk) name v false) _ _ _
  obtain ⟨nm, bs, mro, ns, qn, hd, sn, sb, ab, col, del⟩ := cd
  dsimp only at hh
  subst hh
  unfold storeInOwnDict ownDictForStores
  repeat (first | with_reducible refine store_in_new ?_ ?_ | with_reducible refine wpAny_loadPart_at hx ?_ | with_reducible refine hcls.at ?_ | wp_step)
  · exact ⟨_, #[], _, (Heap.get?_update_ne _ _ _ _ hxs.symm).trans (Heap.get?_push_at rfl rfl), rfl, fun e he => absurd he (by simp), fun _ => rfl⟩
  · intro h' tk' hn' hs
    have hx₁ : (hp.push { cls := .type "dict", data := .dict #[] }).get? x = some { cls := .ref C, data := .fields fv } := Heap.get?_push_of_some _ hx
    refine hq h' tk' hp.objs.size (fun b o hb ho => ?_) (Nat.le_refl _) hxs.symm ?_ hn'
    · exact (hs.2 b (Nat.ne_of_lt (Heap.lt_size ho))).trans ((Heap.get?_update_ne _ _ _ _ hb).trans (Heap.get?_push_of_some _ ho))
    · exact (hs.2 x hxs).trans (Heap.get?_update_self _ hx₁ rfl)
end
end EV
namespace EV
open PySem PySem.W PySem.Calls PyProof.Rows PySem.HandSPX
section
variable {prog : Program} {w : World} {A : Around} {E : Value → Shared → Prop} {s : Shared} {K : Frag} {x D : Addr} {ox : Obj} {od : Option Obj}
theorem findObj_dataD {C : Addr} {name : Str} {a g : Value} (hc : (clsIn K C).isSome = true) (ha : findIn K (.ref C) name = some (some a)) (hg : specialIn K a "__get__" = some (some g)) (ht : takesIn K a = some true) : findObj K C od name = some (.bind g a) := by
  obtain ⟨cd, hc⟩ := Option.isSome_iff_exists.mp hc
  unfold findObj
  rw [hc, Option.bind_some, ha, Option.bind_some]
  cases od <;> simp [hg, ht]
theorem kin_classD {Q : Option Value → Shared → Prop} (hga : findIn K (.ref D) "__getattribute__" = some (some (.builtin "BaseException.__getattribute__"))) (hgt : findIn K (.ref D) "__getattr__" = some none) (hsub : subIn K (.ref D) (.type "BaseException") = some true)
    (hdct : hasDictIn K D = true) (ha : findIn K (.ref D) "__class__" = some (some (.builtin "object.__class__")))
    (hn : specialIn K (.builtin "object.__class__") "__get__" = some (some (.builtin "getset_descriptor.__get__"))) (htk : takesIn K (.builtin "object.__class__") = some true) (hm : mroIn K D (.type "object") = some true)
    (X : K.In s.heap) (I : InstAt s.heap x ox D od) (h : Q (some (.ref D)) { s with toks := s.toks + 1 }) : wpAny (model prog w) A (getAttr? (.ref x) "__class__") Q E s := by
  have hf : findObj K D od "__class__" = some (.bind (.builtin "getset_descriptor.__get__") (.builtin "object.__class__")) := findObj_dataD (by obtain ⟨cd, hc, _⟩ := any_some hdct; rw [hc]; rfl) ha hn htk
  obtain ⟨hp, g, d, t, os⟩ := s
  have L0 := I.type (M := model prog w)
  have L1 := looks_findIn (M := model prog w) X hga
  have L2 := looks_findIn (M := model prog w) X hgt
  have L3 := looks_find (M := model prog w) X I hf
  have sub : Looks (model prog w) hp (isInstance (.ref x) (.type "BaseException")) true := L0.andThen (looks_subIn X hsub)
  have hx0 : (false && onTheHeap (Value.builtin "BaseException.__getattribute__")) = false := rfl
  have hx2 : (Value.builtin "BaseException.__getattribute__" == Value.builtin "object.__getattribute__") = false := by decide +kernel
  have hx1 : (onTheHeap (Value.ref D) && Value.builtin "BaseException.__getattribute__" == Value.builtin "object.__getattribute__") = false := by rw [hx2]; rfl
  unfold getAttr? getAttrBy? getAttrBy
  refine wpAny_bind (wpAny_mkText (wpAny_bind (wpAny_attempt (wpAny_holding (wpAny_bind (L0.at (wpAny_bind (L1.at ?_))))))))
  show wpAny _ _ (if (onTheHeap (Value.ref D) && Value.builtin "BaseException.__getattribute__" == Value.builtin "object.__getattribute__") = true then _ else _) _ _ _
  rw [hx1, if_neg Bool.false_ne_true]
  unfold getAttrByItsOwn hookBefore
  refine wpAny_bind ?_
  rw [if_pos (show onTheHeap (Value.ref D) = true from rfl)]
  refine L2.at ?_
  refine wpAny_bind (wpAny_attempt (wpAny_holding ?_))
  unfold callGetattribute
  rw [hx0, if_neg Bool.false_ne_true]
  unfold boundAndCalled
  rw [PySem.F.excAttr_ValueError.ga.bind (.ref x)]
  refine wpAny_bind (wpAny_pure ?_)
  show wpAny _ _ (call (.builtin "BaseException.__getattribute__") [.ref x, .str "__class__" t]) _ _ _
  refine wpAny_call (codeAny_call_builtin PySem.F.excAttr_ValueError.ga.plain PySem.F.entry_bexc_ga ?_)
  refine @check_slot (model prog w) _ _ ⟨hp, g, d, t + 1, os⟩ "BaseException.__getattribute__" "BaseException" "__getattribute__" (.ref x) [.str "__class__" t] [] _ (by decide +kernel) (by decide +kernel) sub (PySem.F.args_bexc_ga (.ref x) (.str "__class__" t)) ?_
  unfold Builtin.«object.__getattribute__»
  refine wpAny_bind (wpAny_of_eq (a := ((Value.ref x : Value), [Value.str "__class__" t])) (by first | rfl | (simp only [slotArgs]; rfl)) ?_)
  refine wpAny_bind (wpAny_pure (wpAny_bind (L0.at (wpAny_bind (L3.at ?_)))))
  show wpAny _ _ (holding [Value.builtin "object.__class__"] (call (.builtin "getset_descriptor.__get__") [.builtin "object.__class__", .ref x, .ref D]) >>= ret) _ _ _
  refine wpAny_bind (wpAny_holding (wpAny_call (class_get (s := ⟨hp, g, d, t + 1, os⟩) (ox := ox) (od := od) X I hm ?_)))
  refine wpAny_pure ?_
  show wpAny _ _ (handedOut (.ref D)) _ _ _
  rw [handedOut_of (v := .ref D) rfl]
  first
    | exact wpAny_pure (wpAny_pure h)
    | exact wpAny_pure h
    | exact wpAny_pure (wpAny_bind (wpAny_pure (wpAny_pure h)))
theorem kitx_excD (hga : findIn K (.ref D) "__getattribute__" = some (some (.builtin "BaseException.__getattribute__"))) (hgt : findIn K (.ref D) "__getattr__" = some none) (hsub : subIn K (.ref D) (.type "BaseException") = some true) (hdct : hasDictIn K D = true) (ha : findIn K (.ref D) "__class__" = some (some (.builtin "object.__class__")))
    (hn : specialIn K (.builtin "object.__class__") "__get__" = some (some (.builtin "getset_descriptor.__get__"))) (htk : takesIn K (.builtin "object.__class__") = some true) (hm : mroIn K D (.type "object") = some true) :
    KitX K (.ref x) (.ref D) (fun h => InstAt h x ox D od) where
  ty := fun _ _ _ I => I.type
  it := fun _ _ X _ => by
    obtain ⟨cdD, hcD, _⟩ := any_some hdct
    unfold clsIn at hcD
    split at hcD
    · rename_i c' d' cd' sl' ho
      intro A' Q' E' s' k q
      unfold isType loadHead
      exact wpAny_bind (wpAny_loadPart (k _ _ (X _ _ ho)) (wpAny_pure q))
    · cases hcD
  ne := fun h tp dd its n sl X htp => by
    obtain ⟨cdD, hcD, _⟩ := any_some hdct
    refine Bool.eq_false_iff.mpr fun q => ?_
    have e : D = tp := Value.ref.inj (beq_iff_eq.mp q)
    subst e
    unfold clsIn at hcD
    split at hcD
    · rename_i c' d' cd' sl' ho
      have z := (X _ _ ho).symm.trans htp
      cases z
    · cases hcD
  ca := fun X I k => kin_classD hga hgt hsub hdct ha hn htk hm X I k
end
end EV
set_option maxHeartbeats 4000000
namespace LX
open PySem PySem.Spec PyProof.Rows L2 C8 SX
structure XC (K : PySem.W.Frag) (C : Addr) : Prop where
  obj : ∃ (tail bmF : List Value) (B newId initId : String), ExcBaseFacts B newId initId bmF ∧ PySem.W.excInitIn K C tail newId = true ∧ tail.contains (.type B) = true ∧ tail.contains (.type "AttributeError") = false ∧ tail.contains (.type "NameError") = false ∧
    tail.contains (.type "object") = true ∧ ∀ self, PySem.refuseLoop self "__setattr__" tail = pure ()
  hd : PySem.W.hasDictIn K C = true
  sa : PySem.W.findIn K (.ref C) "__setattr__" = some (some (.builtin "object.__setattr__"))
  ga : PySem.W.findIn K (.ref C) "__getattribute__" = some (some (.builtin "BaseException.__getattribute__"))
  gg : PySem.W.findIn K (.ref C) "__getattr__" = some none
  exC : PySem.W.subIn K (.ref C) (.type "BaseException") = some true
  tyC : PySem.W.typeIn K (.ref C) = some (.type "type")
  kC : PySem.W.keepIn K (.ref C) = true
  ha : PySem.W.findIn K (.ref C) "__class__" = some (some (.builtin "object.__class__"))
  hn : PySem.W.specialIn K (.builtin "object.__class__") "__get__" = some (some (.builtin "getset_descriptor.__get__"))
  ht : PySem.W.takesIn K (.builtin "object.__class__") = some true
  hm : PySem.W.mroIn K C (.type "object") = some true
def veT : List Value := [.type "ValueError", .type "Exception", .type "BaseException", .type "object"]
def keT : List Value := [.type "KeyError", .type "LookupError", .type "Exception", .type "BaseException", .type "object"]
theorem veT_pass (self : Value) : PySem.refuseLoop self "__setattr__" veT = pure () := HandSPX.refsVE_pass self veT (by decide +kernel)
theorem keT_pass (self : Value) : PySem.refuseLoop self "__setattr__" keT = pure () := by kernel_rfl
theorem XC.ve {K : PySem.W.Frag} {C : Addr} (q : PySem.W.excInitIn K C veT "ValueError.__new__" = true) (hd : PySem.W.hasDictIn K C = true) (sa : PySem.W.findIn K (.ref C) "__setattr__" = some (some (.builtin "object.__setattr__")))
    (ga : PySem.W.findIn K (.ref C) "__getattribute__" = some (some (.builtin "BaseException.__getattribute__"))) (gg : PySem.W.findIn K (.ref C) "__getattr__" = some none) (exC : PySem.W.subIn K (.ref C) (.type "BaseException") = some true) (tyC : PySem.W.typeIn K (.ref C) = some (.type "type"))
    (kC : PySem.W.keepIn K (.ref C) = true) (ha : PySem.W.findIn K (.ref C) "__class__" = some (some (.builtin "object.__class__"))) (hn : PySem.W.specialIn K (.builtin "object.__class__") "__get__" = some (some (.builtin "getset_descriptor.__get__"))) (ht : PySem.W.takesIn K (.builtin "object.__class__") = some true)
    (hm : PySem.W.mroIn K C (.type "object") = some true) : XC K C :=
  ⟨⟨veT, _, _, _, _, PySem.F.excBase_ValueError, q, by decide +kernel, by decide +kernel, by decide +kernel, by decide +kernel, veT_pass⟩, hd, sa, ga, gg, exC, tyC, kC, ha, hn, ht, hm⟩
theorem XC.ke {K : PySem.W.Frag} {C : Addr} (q : PySem.W.excInitIn K C keT "LookupError.__new__" = true) (hd : PySem.W.hasDictIn K C = true) (sa : PySem.W.findIn K (.ref C) "__setattr__" = some (some (.builtin "object.__setattr__")))
    (ga : PySem.W.findIn K (.ref C) "__getattribute__" = some (some (.builtin "BaseException.__getattribute__"))) (gg : PySem.W.findIn K (.ref C) "__getattr__" = some none) (exC : PySem.W.subIn K (.ref C) (.type "BaseException") = some true) (tyC : PySem.W.typeIn K (.ref C) = some (.type "type"))
    (kC : PySem.W.keepIn K (.ref C) = true) (ha : PySem.W.findIn K (.ref C) "__class__" = some (some (.builtin "object.__class__"))) (hn : PySem.W.specialIn K (.builtin "object.__class__") "__get__" = some (some (.builtin "getset_descriptor.__get__"))) (ht : PySem.W.takesIn K (.builtin "object.__class__") = some true)
    (hm : PySem.W.mroIn K C (.type "object") = some true) : XC K C :=
  ⟨⟨keT, _, _, _, _, PySem.F.excBase_LookupError, q, by decide +kernel, by decide +kernel, by decide +kernel, by decide +kernel, keT_pass⟩, hd, sa, ga, gg, exC, tyC, kC, ha, hn, ht, hm⟩
theorem XC.data {K : PySem.W.Frag} {C : Addr} (T : XC K C) : ∃ (nm q : Str) (N : Addr) (bs bm : List Value) (sn : List Str) (sub : List Value) (ab : Bool) (col : Option Bool) (dd : Option Addr) (k0 k1 k2 k3 k5 : Option Value) (B newId initId : String) (bmF : List Value),
    ExcBaseFacts B newId initId bmF ∧ K.lookup C = some (excClassObj nm q C N bs bm true sn sub ab col dd k0 k1 k2 k3 k5 newId) ∧ bm.contains (.type B) = true ∧ bm.contains (.type "AttributeError") = false ∧ bm.contains (.type "NameError") = false ∧
    (∀ self, PySem.refuseLoop self "__setattr__" (.ref C :: bm) = pure ()) ∧ (Value.ref C :: bm).contains (.type "object") = true := by
  obtain ⟨tail, bmF, B, newId, initId, F, q, hB, hA, hN, hO, hp⟩ := T.obj
  have hdct := T.hd
  unfold PySem.W.excInitIn at q
  unfold PySem.W.hasDictIn PySem.W.clsIn at hdct
  split at q
  · rename_i dd cd sl ho
    rw [ho] at hdct
    split at q
    · rename_i C' bm k0 k1 k2 k3 n k5 hm hs
      simp only [Bool.and_eq_true, beq_iff_eq, Bool.not_eq_true'] at q
      obtain ⟨⟨⟨rfl, rfl⟩, hdel⟩, ht⟩ := q
      obtain ⟨nm, bs, mro, ns, qn, hd, sn, sub, ab, col, del⟩ := cd
      have hdct : hd = true := hdct
      dsimp only at hm hdel
      subst hm hdel hdct
      have hsl : sl = #[k0, k1, k2, k3, some (.builtin n), k5] := by
        obtain ⟨l⟩ := sl
        simp only at hs
        rw [hs]
      subst hsl
      have hT : ∀ X : String, bm.contains (.type X) = tail.contains (.type X) := fun X => PySem.W.excTail_contains X _ ht
      refine ⟨nm, qn, ns, bs, bm, sn, sub, ab, col, dd, k0, k1, k2, k3, k5, B, n, initId, bmF, F, ho, (hT _).trans hB, (hT _).trans hA, (hT _).trans hN, fun self => ?_, ?_⟩
      · exact PySem.W.excTail_pass self (hp self) _ ht
      · rw [List.contains_cons, hT, hO, Bool.or_true]
    · cases q
  · cases q
section
variable {X : Cx} {pins : List (Addr × Obj)} {σ : L2.St} {H : Hp} {s : Shared} {a C dx : Addr} {f : Str} {y : V} {u : Value} {Q : Unit → Shared → Prop} {E : Value → Shared → Prop} {A : Around}
theorem ost_newG (T : XC X.K C) (I : Inv X pins σ H s) (e : H a = some (exo a C none)) (hno : PySem.W.findIn X.K (.ref C) f = some none) (ry : RelV y u)
    (h : ∀ dx s', H dx = none → dx ≠ a → Inv X pins σ (upd (upd H dx (exd dx [(f, y)])) a (exo a C (some dx))) s' → Q () s') : wpAny (model X.prog X.w) A (setAttr (.ref a) f u) Q E s := by
  obtain ⟨nm, q, N, bs, bm, sn, sub, ab, col, dd, k0, k1, k2, k3, k5, B, newId, initId, bmF, F, hC, hB, hA, hN, hp0, hob⟩ := T.data
  have hcl : PySem.W.clsIn X.K C = some { name := nm, bases := bs, mro := .ref C :: bm, ns := N, qualname := q, hasDict := true, slotNames := sn, subclasses := sub, abstract := ab, collection := col, hasDel := false } := by unfold PySem.W.clsIn; rw [hC] <;> rfl
  obtain ⟨t1, ho⟩ := exo_at I.hok e
  obtain ⟨hp, g, d, t, os⟩ := s
  refine PySem.W.set_plain I.kIn (ox := { cls := .ref C, dict := none, data := .fields #[.ref t1, .none, .none, .none, .bool false, .none] }) (od := none) ⟨ho, rfl, rfl, trivial⟩ T.sa ?_
  refine EV.exc_osaG I.kIn ho hcl hp0 rfl hob rfl hno (fun h' tk' dx k dn dne hx hn => ?_)
  have hnd : H dx = none := I.hok.fresh dn
  have nd : ∀ {b : Addr} {o : Obj}, hp.get? b = some o → b ≠ dx := fun {b o} q => Nat.ne_of_lt (Nat.lt_of_lt_of_le (Heap.lt_size q) dn)
  have na : ∀ {b : Addr}, H b = none → b ≠ a := fun {b} n z => by
    rw [z, e] at n
    cases n
  have Un1 : Un X.fs [] H (upd (upd H dx (exd dx [(f, y)])) a (exo a C (some dx))) hp h' := {
    keep := fun b o q n _ _ => k b o (na n) q
    slot := fun b o q n _ _ => ⟨o.slots, k b o (na n) q⟩
    free := fun b o q n _ => by rw [upd_ne (na n), upd_ne (nd q)]; exact n
    there := fun b o q _ => by
      by_cases hb : b = a
      · exact ⟨_, by rw [hb]; exact hx⟩
      · exact ⟨o, k b o hb q⟩
    tups := fun b xs q => by rw [upd_ne (at_ne e q exo_tup), upd_ne (ne_of_none q hnd)]; exact q
    frzs := fun b o v q => by rw [upd_ne (at_ne e q exo_frz), upd_ne (ne_of_none q hnd)]; exact q
    tbls := fun b ps q => ⟨#[], by rw [upd_ne (at_ne e q exo_tbl), upd_ne (ne_of_none q hnd), q]; simp⟩ }
  refine h dx _ hnd dne (I.un (t' := tk') Un1 fun b o q => ?_)
  by_cases hb : b = a
  · subst hb
    rw [upd_same] at q
    cases q
    exact exo_ok hx
  · rw [upd_ne hb] at q
    by_cases hd : b = dx
    · subst hd
      rw [upd_same] at q
      cases q
      exact exd_ok hn (relO_put (fs := []) ry fun g => True.intro)
    · rw [upd_ne hd] at q
      exact (I.hok b o q).stay (fun c v hc z => k c v (by
          rcases hc with hc | hc
          · rw [hc]
            exact hb
          · exact at_ne e hc exo_own) z)
        (fun c hc => by rw [upd_ne (at_ne e hc exo_own), upd_ne (ne_of_none hc hnd)]; exact hc) (fun c xs hc => by rw [upd_ne (at_ne e hc exo_tup), upd_ne (ne_of_none hc hnd)]; exact hc)
end
def tOstG (K : PySem.W.Frag) (f : Str) (to te : TE) : TS := fun D σ H => te σ H fun y H1 => to σ H1 fun x H2 => ∃ a C : Addr, x = .ref a ∧ XC K C ∧ PySem.W.findIn K (.ref C) f = some none ∧
  H2 a = some (exo a C none) ∧ ∀ dx, H2 dx = none → dx ≠ a → D.nx σ (upd (upd H2 dx (exd dx [(f, y)])) a (exo a C (some dx)))
section
variable {X : Cx} {o e : Expr} {es : List Expr} {to te : TE} {ta : TA} {f : Str} {p p' p1 p2 pos : Pos}
theorem ps_ostG (ho : PE X o to) (he : PE X e te) (hs : swapsWith e (some (.Attribute o f p')) pos.line X.env = pure false := by rfl) : PS X (.Assign [.Attribute o f p'] e pos) (tOstG X.K f to te) := by
  refine ⟨fun pins s σ H D I h => ?_⟩
  refine plainObj_wpAny_Assign_Attribute (thn (he.run pins s σ H _ I h) fun v s1 ⟨y, H1, I1, r1, q1⟩ => thn (ho.run pins s1 σ H1 _ I1 q1) fun u s2 ⟨x, H2, I2, r2, a, C, ex, T, hno, ea, q⟩ => ?_) hs
  subst ex
  obtain rfl : u = Value.ref a := r2
  exact ost_newG T I2 ea hno r1 fun dx s' n ne J => ⟨σ, _, J, q dx n ne⟩
theorem pmk_xc {CX : CXT} {x : Str} {C fI : Addr} {k : Nat} {fd : FuncData} {ps : List Str} {sp : Sp} {ds : List Value} {dvs : List V} (T : XC X.K C) (iC : PySem.W.findIn X.K (.ref C) "__init__" = some (some (.ref fI))) (tI : PySem.W.typeIn X.K (.ref fI) = some (.type "function"))
    (F1 : FnOk X.prog X.w X.K X.mg X.base CX k fI fd ps sp) (hr : Room (k + 1) X.A) (hb : Binds X.K fd ps ds) (hd : Vals dvs ds) (hx : Passes CX X (fun _ _ _ => False)) (hg : Gl X x) (hm : X.mg x = some (.ref C)) (ha : PA X (e :: es) ta)
    (hdb : (x == ("__debug__" : Str)) = false := by decide) (he : starEach (e :: es) X.env = (false, eval e X.env) :: starEach es X.env := by rfl) (hpl : (backTo pos (starEach es X.env)).any (·.1) = false := by rfl) :
    PMk X (.Call (.Name x p) (e :: es) [] pos) (tMkO C sp dvs ta) := by
  intro pins s σ H Q I h
  obtain ⟨nm, q, N, bs, bm, sn, sub, ab, col, dd, k0, k1, k2, k3, k5, B, newId, initId, bmF, F, hC, hB, hA, hN, hp0, hob⟩ := T.data
  refine wpAny_Call_Name_kw (ld_glob I hg hm ?_ hdb)
  refine PySem.W.callWith_K (h₀ := X.base) I.ok.mod.kin T.kC (thn (ha.run pos pins s σ H _ I h) fun us s1 ⟨vs, H1, I1, r1, hz, q1⟩ => ⟨I1.kIn, ?_⟩) he hpl
  show wpAny _ _ (call (.ref C) us) _ _ _
  obtain ⟨hp, g, dr, tk, os⟩ := s1
  have hsz : hp.objs.size ≤ hp.objs.size + 1 := Nat.le_succ _
  have hn : H1 (hp.objs.size + 1) = none := I1.hok.fresh hsz
  have hq := q1 (hp.objs.size + 1) hn
  have kk : ∀ b o, hp.get? b = some o → ((hp.push (PySem.W.kdv_tup us)).push (PySem.HandSPX.excO C hp.objs.size)).get? b = some o := fun b o e => Heap.get?_push_of_some _ (Heap.get?_push_of_some _ e)
  have hget : ((hp.push (PySem.W.kdv_tup us)).push (PySem.HandSPX.excO C hp.objs.size)).get? (hp.objs.size + 1) = some (PySem.HandSPX.excO C hp.objs.size) := by heap_get
  have I2 : Inv X pins σ (upd H1 (hp.objs.size + 1) (exo (hp.objs.size + 1) C none)) ⟨(hp.push (PySem.W.kdv_tup us)).push (PySem.HandSPX.excO C hp.objs.size), g, dr, tk, os⟩ :=
    I1.laid (t' := tk) (a := hp.objs.size + 1) (o := exo (hp.objs.size + 1) C none) (h' := (hp.push (PySem.W.kdv_tup us)).push (PySem.HandSPX.excO C hp.objs.size)) kk hsz (exo_ok hget)
  have r2 : Vals (V.ref (hp.objs.size + 1) :: (vs ++ dvs)) (Value.ref (hp.objs.size + 1) :: (us ++ ds)) := .cons rfl (r1.append hd)
  have hl : (Value.ref (hp.objs.size + 1) :: us ++ ds).length = ps.length := by
    have e := r2.length
    rw [F1.len _ _ _ _ hq] at e
    exact e.symm
  have hus : us.length ≤ sizeLine := by
    rw [← Paired.length r1, sizeLine_eq]
    omega
  refine wpAny_call (EV.call_kw (kw := []) F hB hA hN (I1.kIn _ _ hC) (PySem.W.looks_findIn I1.kIn iC) (fun self => PySem.W.bind_fn I1.kIn self tI) hus
    (codeAny_mono (F1.run _ X.stack _ _ ⟨Value.ref (hp.objs.size + 1) :: us, []⟩ (Value.ref (hp.objs.size + 1) :: (us ++ ds)) _ _ (fun _ _ _ => False) (hr.make C us []) (I2.env0.make C us []) (hb _ (Value.ref (hp.objs.size + 1) :: us) I2.kIn hl) r2 hq) fun r s' hq' => ?_))
  cases r with
  | error er => exact hx pins σ _ _ er s' I2 hq'
  | ok fl =>
    cases fl with
    | ret u =>
      obtain ⟨v, H2, os2, bare2, un2, hok2, rv, ev, d, fs, ea, ed, hd1, q2⟩ := hq'
      subst ev
      obtain ⟨h2, g2, d2, t2, os'⟩ := s'
      exact ⟨rv, mk_end (raises_own T.exC T.tyC) I1 hsz kk un2 hok2 os2 bare2 ea ed hd1 q2⟩
    | next => exact False.elim hq'
    | brk => exact False.elim hq'
    | cont => exact False.elim hq'
theorem pmk_own0 {C : Addr} {bmB : List Value} {B newId initId : String} {x : Str} {p pos : Pos} (F : ExcBaseFacts B newId initId bmB) (q : PySem.W.excIn X.K C bmB newId = true) (gC : X.mg x = some (.ref C)) (kC : PySem.W.keepIn X.K (.ref C) = true) (r : Raises X (.ref C)) (hg : Gl X x)
    (hdb : (x == ("__debug__" : Str)) = false := by decide) : PMk X (.Call (.Name x p) [] [] pos) (fun σ H Q => Q (.ref C) none H) := by
  intro pins s σ H Q I h
  refine wpAny_Call_Name_kw (ld_glob I hg gC ?_ hdb)
  refine PySem.W.callWith_K0 I.kIn kC ?_
  show wpAny _ _ (call (.ref C) []) _ _ _
  obtain ⟨bm, N, nm, qn, bs, hdct, sn, sub, ab, col, dd, k0, k1, k2, k3, k5, mN, hC, hN, hni, T⟩ := exc_obj I.kIn q
  refine wpAny_call_exc_subT F T hC hN hni (fun h' e hm => ?_) (by show 0 ≤ sizeLine; exact Nat.zero_le _)
  exact mk_of I hm r h (I.hok.gone hm.new)
end
def rIsX (K : PySem.W.Frag) (a : Addr) (cls : Value) (d : Option Addr) : List V → Hp → VK → Prop := fun xs H Q => ∃ (D : Addr) (c : V) (cv : Value) (b : Bool), cls = .ref D ∧ ExcC K D ∧ xs = [.ref a, c] ∧ (∀ u, RelV c u → u = cv) ∧ PySem.W.kitOne K (.ref D) cv = some b ∧
  (d = none ∨ ∃ dd fs, d = some dd ∧ H dd = some (.xd fs)) ∧ Q (.bl b) H
theorem call_isX {X : Cx} {a : Addr} {cls : Value} {d : Option Addr} {oe : Obj} {pn : List (Addr × Obj)} (hz : Zc cls d oe) (hf : ∃ vs, oe.data = .fields vs) : CallR (X.suite a ((a, oe) :: pn)) (.builtin "isinstance") (rIsX X.K a cls d) := by
  intro pins s σ H xs us Q I r h
  obtain ⟨D, c, cv, b, ecls, C, rfl, hcv, e, hd, q⟩ := h
  subst ecls
  cases r with
  | cons rx rr =>
    cases rr with
    | cons rt rr =>
      cases rr
      cases rx
      have ec := hcv _ rt
      subst ec
      obtain ⟨hget, _⟩ := I.pin (a, oe) (List.mem_append.mpr (.inl List.mem_cons_self))
      obtain ⟨vs, hv⟩ := hf
      have J : ∃ od : Option Obj, PySem.W.InstAt s.heap a oe D od := by
        obtain ⟨oc, od, oda, osl⟩ := oe
        obtain ⟨h1, h2⟩ := hz
        dsimp only at h1 h2 hv
        subst h1 h2 hv
        rcases hd with rfl | ⟨dd, fs, rfl, hdd⟩
        · exact ⟨none, hget, rfl, rfl, trivial⟩
        · have hx : ObjOk X.prog X.w H s.heap dd (.xd fs) := I.hok dd _ hdd
          obtain ⟨mA, hns, _⟩ := hx
          obtain ⟨o, _, _, ho, _⟩ := hns
          exact ⟨some o, hget, rfl, rfl, ho⟩
      obtain ⟨od, J⟩ := J
      exact PySem.W.kia_one (EV.kitx_excD (od := od) C.hg C.hk C.hs C.hd C.ha C.hn C.ht C.hm) I.kIn J e (fun z => nomatch z) fun tk => ⟨.bl b, H, I.kept (t' := tk) fun _ _ z => z, rfl, q⟩
theorem XC.exc {K : PySem.W.Frag} {C : Addr} (T : XC K C) : ExcC K C := ⟨T.ga, T.gg, T.exC, T.hd, T.ha, T.hn, T.ht, T.hm⟩
theorem XC.xf {K : PySem.W.Frag} {C : Addr} (T : XC K C) : XfC K C := ⟨T.ga, T.gg, T.exC, T.hd⟩
theorem XC.raises {X : Cx} {C : Addr} (T : XC X.K C) : Raises X (.ref C) := raises_own T.exC T.tyC
theorem XC.exm {K : PySem.W.Frag} {C : Addr} {cls : Value} {b : Bool} (T : XC K C) (h : PySem.W.subIn K cls (.ref C) = some b) : PySem.W.exmOne K cls (.ref C) = some b := PySem.W.exm_ref T.exC T.hd T.tyC h
end LX
set_option maxHeartbeats 4000000
namespace LX
open PySem PySem.Spec PyProof.Rows L2 C8 SX
section
variable {P : Program} {w : World} {K : PySem.W.Frag} {mg : Str → Option Value} {base : Heap}
theorem fnX {x qual : Str} {st : Stmt} {f : Addr} {fd : FuncData} {N ps : List Str} {k : Nat} {sp : Sp} (F : C8.Fun K x qual st f fd) (S : FnScope N ps (C8.fnScope st)) (len : ∀ vs H Q E, sp vs H Q E → vs.length = ps.length)
    (hbody : ∀ (cdv : Value) (A : Around) (outer : List Env) (s : Shared) (H : Hp) (vs : List V) (Q : VK) (E : XK), Room k (A.deeper (envOfC qual (C8.fnScope st) s.heap.objs.size f cdv)) → sp vs H Q E →
      ∃ t, PSs (cxOf (L2.CX P w) P w K mg base N qual (C8.fnScope st) f cdv A outer s H E) (C8.fnBody st) t ∧ t { nx := fun _ H' => Q .non H', rt := Q } (L2.start N vs) H) : FnOk P w K mg base (L2.CX P w) (k + 1) f fd ps sp := by
  obtain ⟨oc, od, dV, kV, doc, pm, an, cdv, ct, osl, rfl, lk, hcd⟩ := F.ex
  exact fn_of lk hcd S len fun A outer s H vs Q E hr hsp => hbody cdv A outer s H vs Q E hr hsp
structure CalX (P : Program) (w : World) (K : PySem.W.Frag) (mg : Str → Option Value) (base : Heap) (k : Nat) (x : Str) (sp : Sp) : Prop where
  ex : ∃ (f : Addr) (fd : FuncData) (ps : List Str), FnOk P w K mg base (L2.CX P w) k f fd ps sp ∧ mg x = some (.ref f) ∧ PySem.W.keepIn K (.ref f) = true ∧ Binds K fd ps []
structure MetX (P : Program) (w : World) (K : PySem.W.Frag) (mg : Str → Option Value) (base : Heap) (k : Nat) (C : Addr) (m : Str) (sp : Sp) : Prop where
  ex : ∃ (f : Addr) (fd : FuncData) (ps : List Str), Cls K C ∧ Meth K C m f ∧ FnOk P w K mg base (L2.CX P w) k f fd ps sp ∧ Binds K fd ps []
structure MakX (P : Program) (w : World) (K : PySem.W.Frag) (mg : Str → Option Value) (base : Heap) (k : Nat) (x : Str) (C : Addr) (sp : Sp) : Prop where
  ex : ∃ (f : Addr) (fd : FuncData) (ps : List Str), Mk K C f ∧ FnOk P w K mg base (L2.CX P w) k f fd ps sp ∧ mg x = some (.ref C) ∧ Binds K fd ps []
structure RaiX (P : Program) (w : World) (K : PySem.W.Frag) (mg : Str → Option Value) (base : Heap) (k : Nat) (x : Str) (C : Addr) (sp : Sp) : Prop where
  ex : ∃ (f : Addr) (fd : FuncData) (ps : List Str), XC K C ∧ PySem.W.findIn K (.ref C) "__init__" = some (some (.ref f)) ∧ PySem.W.typeIn K (.ref f) = some (.type "function") ∧ FnOk P w K mg base C8.CX0 k f fd ps sp ∧ mg x = some (.ref C) ∧ Binds K fd ps []
theorem calX {x : Str} {st : Stmt} {f : Addr} {fd : FuncData} {N ps : List Str} {k : Nat} {sp : Sp} (F : Def K mg x st f fd) (b : Binds K fd ps []) (S : FnScope N ps (C8.fnScope st)) (len : ∀ vs H Q E, sp vs H Q E → vs.length = ps.length)
    (hbody : ∀ (cdv : Value) (A : Around) (outer : List Env) (s : Shared) (H : Hp) (vs : List V) (Q : VK) (E : XK), Room k (A.deeper (envOfC x (C8.fnScope st) s.heap.objs.size f cdv)) → sp vs H Q E →
      ∃ t, PSs (cxOf (L2.CX P w) P w K mg base N x (C8.fnScope st) f cdv A outer s H E) (C8.fnBody st) t ∧ t { nx := fun _ H' => Q .non H', rt := Q } (L2.start N vs) H) : CalX P w K mg base (k + 1) x sp :=
  ⟨f, fd, ps, fnX F.fn S len hbody, F.mgf, F.kp, b⟩
theorem metX {m qual : Str} {C : Addr} {st : Stmt} {f : Addr} {fd : FuncData} {N ps : List Str} {k : Nat} {sp : Sp} (c : Cls K C) (me : Meth K C m f) (F : C8.Fun K m qual st f fd) (b : Binds K fd ps []) (S : FnScope N ps (C8.fnScope st)) (len : ∀ vs H Q E, sp vs H Q E → vs.length = ps.length)
    (hbody : ∀ (cdv : Value) (A : Around) (outer : List Env) (s : Shared) (H : Hp) (vs : List V) (Q : VK) (E : XK), Room k (A.deeper (envOfC qual (C8.fnScope st) s.heap.objs.size f cdv)) → sp vs H Q E →
      ∃ t, PSs (cxOf (L2.CX P w) P w K mg base N qual (C8.fnScope st) f cdv A outer s H E) (C8.fnBody st) t ∧ t { nx := fun _ H' => Q .non H', rt := Q } (L2.start N vs) H) : MetX P w K mg base (k + 1) C m sp :=
  ⟨f, fd, ps, c, me, fnX F S len hbody, b⟩
theorem makX {x qual : Str} {C : Addr} {st : Stmt} {f : Addr} {fd : FuncData} {N ps : List Str} {k : Nat} {sp : Sp} (M : Mk K C f) (hm : mg x = some (.ref C)) (F : C8.Fun K "__init__" qual st f fd) (b : Binds K fd ps []) (S : FnScope N ps (C8.fnScope st)) (len : ∀ vs H Q E, sp vs H Q E → vs.length = ps.length)
    (hbody : ∀ (cdv : Value) (A : Around) (outer : List Env) (s : Shared) (H : Hp) (vs : List V) (Q : VK) (E : XK), Room k (A.deeper (envOfC qual (C8.fnScope st) s.heap.objs.size f cdv)) → sp vs H Q E →
      ∃ t, PSs (cxOf (L2.CX P w) P w K mg base N qual (C8.fnScope st) f cdv A outer s H E) (C8.fnBody st) t ∧ t { nx := fun _ H' => Q .non H', rt := Q } (L2.start N vs) H) : MakX P w K mg base (k + 1) x C sp :=
  ⟨f, fd, ps, M, fnX F S len hbody, hm, b⟩
theorem raiX {x qual : Str} {C : Addr} {st : Stmt} {f : Addr} {fd : FuncData} {N ps : List Str} {k : Nat} {sp : Sp} (T : XC K C) (iC : PySem.W.findIn K (.ref C) "__init__" = some (some (.ref f))) (tI : PySem.W.typeIn K (.ref f) = some (.type "function")) (hm : mg x = some (.ref C)) (F : C8.Fun K "__init__" qual st f fd) (b : Binds K fd ps []) (S : FnScope N ps (C8.fnScope st)) (len : ∀ vs H Q E, sp vs H Q E → vs.length = ps.length)
    (hbody : ∀ (cdv : Value) (A : Around) (outer : List Env) (s : Shared) (H : Hp) (vs : List V) (Q : VK) (E : XK), Room k (A.deeper (envOfC qual (C8.fnScope st) s.heap.objs.size f cdv)) → sp vs H Q E →
      ∃ t, PSs (cxOf C8.CX0 P w K mg base N qual (C8.fnScope st) f cdv A outer s H E).nox (C8.fnBody st) t ∧ t { nx := fun _ H' => Q .non H', rt := Q } (L2.start N vs) H) : RaiX P w K mg base (k + 1) x C sp :=
  ⟨f, fd, ps, T, iC, tI, fn0 F S len hbody, hm, b⟩
end
def tMethS (C : Addr) (m : Str) (sp : Sp) (E : L2.St → XK) (ta : TE) (t : TA) : TE := fun σ H Q => ta σ H fun x H1 => ∃ a dx fs, x = .ref a ∧ H1 a = some (.ins C dx fs) ∧ fs.lookup m = none ∧ t σ H1 fun vs H2 => sp (x :: vs) H2 Q (E σ)
def tMakeS (C : Addr) (sp : Sp) (E : L2.St → XK) (t : TA) : TE := fun σ H Q => t σ H fun vs H1 => ∀ x dx, H1 x = none → H1 dx = none → dx ≠ x → sp (.ref x :: vs) (upd (upd H1 dx (.own x)) x (.ins C dx [])) (fun v H2 => v = .non ∧ Q (.ref x) H2) (E σ)
section
variable {X : Cx} {k j : Nat} {f C : Addr} {sp : Sp} {W : WX} {x m : Str} {p pos apos : Pos} {e o : Expr} {es : List Expr} {ta : TE} {t : TA}
theorem pe_cX (c : CalX X.prog X.w X.K X.mg X.base k x sp) (tk : Takes X W) (hr : Room j X.A) (hk : k ≤ j) (hg : Gl X x) (ha : PA X (e :: es) t) (hdb : (x == ("__debug__" : Str)) = false := by decide)
    (he : starEach (e :: es) X.env = (false, eval e X.env) :: starEach es X.env := by rfl) (hpl : (backTo pos (starEach es X.env)).any (·.1) = false := by rfl) : PE X (.Call (.Name x p) (e :: es) [] pos) (tCallS sp (WE W) t) := by
  obtain ⟨f, fd, ps, F, hm, kp, b⟩ := c.ex
  exact pe_callS F (hr.mono hk) hg hm kp b (fun σ => passAt tk σ) ha hdb he hpl
theorem pe_mtX {pl : Sem Bool} (c : MetX X.prog X.w X.K X.mg X.base k C m sp) (tk : Takes X W) (hr : Room j X.A) (hk : k ≤ j) (he : PE X o ta) (ha : PA X (e :: es) t)
    (hst : starEach (e :: es) X.env = (false, eval e X.env) :: starEach es X.env := by rfl) (hpl : (backTo pos (starEach es X.env)).any (·.1) = false := by rfl)
    (ht : eval (.Call (.Attribute o m apos) (e :: es) [] pos) X.env = (do
      let ov ← eval o X.env
      standAt apos.atName
      let (f, first) ← holding [ov] (getMethod ov m pl)
      callWith pos f first (backTo pos (starEach (e :: es) X.env)) (backToKw pos (keywordEach [] X.env))) := by rfl) :
    PE X (.Call (.Attribute o m apos) (e :: es) [] pos) (tMethS C m sp (WE W) ta t) := by
  obtain ⟨f, fd, ps, cl, hm, F, hb⟩ := c.ex
  refine ⟨fun pins s σ H Q I h => ?_⟩
  refine PySem.W.methodCall_KW (pl := pl) (thn (he.run pins s σ H _ I h) fun u s1 ⟨x, H1, I1, rx, a, dx, fs, ex, ea, l, q⟩ => ?_) ht
  subst ex
  obtain rfl : u = Value.ref a := rx
  refine getmeth_ok I1 ea cl hm l ?_
  refine PySem.W.callWith_K (first := [.ref a]) (h₀ := X.base) I.ok.mod.kin hm.kp (thn (ha.run pos pins s1 σ H1 _ I1 q) fun us s2 ⟨vs, H2, I2, r, q2⟩ => ⟨I2.kIn, ?_⟩) hst hpl
  exact run_fnS (us := .ref a :: us) (vs := .ref a :: vs) F (hr.mono hk) hb (passAt tk σ) I2 (.cons rfl r) q2
theorem pe_mkX (c : MakX X.prog X.w X.K X.mg X.base k x C sp) (tk : Takes X W) (hr : Room j X.A) (hk : k + 1 ≤ j) (hg : Gl X x) (ha : PA X (e :: es) t) (hdb : (x == ("__debug__" : Str)) = false := by decide)
    (he : starEach (e :: es) X.env = (false, eval e X.env) :: starEach es X.env := by rfl) (hpl : (backTo pos (starEach es X.env)).any (·.1) = false := by rfl) : PE X (.Call (.Name x p) (e :: es) [] pos) (tMakeS C sp (WE W) t) := by
  obtain ⟨f, fd, ps, M, F, hm, hb⟩ := c.ex
  refine ⟨fun pins s σ H Q I h => ?_⟩
  refine wpAny_Call_Name_kw (ld_glob I hg hm ?_ hdb)
  refine PySem.W.callWith_K (h₀ := X.base) I.ok.mod.kin M.kp (thn (ha.run pos pins s σ H _ I h) fun us s1 ⟨vs, H1, I1, r, q⟩ => ⟨I1.kIn, ?_⟩) he hpl
  have hq := q (s1.heap.objs.size + 1) s1.heap.objs.size (I1.hok.fresh (Nat.le_succ _)) (I1.hok.fresh (Nat.le_refl _)) (Nat.ne_of_lt (Nat.lt_succ_self _))
  have I2 := Inv.made (C := C) I1
  have r2 : Vals (V.ref (s1.heap.objs.size + 1) :: vs) (Value.ref (s1.heap.objs.size + 1) :: us) := .cons rfl r
  have hl : (Value.ref (s1.heap.objs.size + 1) :: us ++ []).length = ps.length := by
    have e := r2.length
    rw [F.len _ _ _ _ hq] at e
    rw [List.append_nil]
    exact e.symm
  have hb2 := hb _ (Value.ref (s1.heap.objs.size + 1) :: us) I2.kIn hl
  rw [List.append_nil] at hb2
  refine wpAny_call (make_map (f := f) I1.kIn M.makes M.init (beq_iff_eq.mp M.fn) (codeAny_mono (F.run _ X.stack _ _ ⟨Value.ref (s1.heap.objs.size + 1) :: us, []⟩ (Value.ref (s1.heap.objs.size + 1) :: us) _ _ (WE W σ) ((hr.mono hk).make C us [])
    (I2.env0.make C us []) hb2 r2 hq) fun r s' hq' => ?_))
  cases r with
  | error e => exact passAt tk σ pins _ _ e s' I2 hq'
  | ok fl =>
    cases fl with
    | ret u =>
      obtain ⟨v, H', I3, rv, ev, q3⟩ := I2.after hq'
      subst ev
      exact ⟨rv, ⟨V.ref (s1.heap.objs.size + 1), H', I3, rfl, q3⟩⟩
    | next => exact False.elim hq'
    | brk => exact False.elim hq'
    | cont => exact False.elim hq'
theorem pmk_rai (c : RaiX X.prog X.w X.K X.mg X.base k x C sp) (hr : Room j X.A) (hk : k + 1 ≤ j) (hg : Gl X x) (ha : PA X (e :: es) t) (hdb : (x == ("__debug__" : Str)) = false := by decide)
    (he : starEach (e :: es) X.env = (false, eval e X.env) :: starEach es X.env := by rfl) (hpl : (backTo pos (starEach es X.env)).any (·.1) = false := by rfl) : PMk X (.Call (.Name x p) (e :: es) [] pos) (tMkO C sp [] t) := by
  obtain ⟨f, fd, ps, T, iC, tI, F, hm, b⟩ := c.ex
  exact pmk_xc T iC tI F (hr.mono hk) b .nil C8.pass0 hg hm ha hdb he hpl
end
def wManyA (K : PySem.W.Frag) (Wout : WX) (D : Ends) : List (Value × Option Nat × (Addr → Value → Option Addr → TS)) → WX
  | [] => Wout
  | (c, none, ts) :: r => fun cls d σ H => ∃ b, PySem.W.exmOne K cls c = some b ∧ (b = true → ∀ a, H a = none → ts a cls d D σ H) ∧ (b = false → wManyA K Wout D r cls d σ H)
  | (c, some i, ts) :: r => fun cls d σ H => ∃ b, PySem.W.exmOne K cls c = some b ∧ (b = true → ∀ a, H a = none → ts a cls d { nx := fun σ' H' => D.nx (σ'.set i none) H', rt := D.rt, bk := fun σ' H' => D.bk (σ'.set i none) H', ct := fun σ' H' => D.ct (σ'.set i none) H' } (σ.set i (some (.ref a))) H) ∧
      (b = false → wManyA K Wout D r cls d σ H)
inductive HdsA (X : Cx) : List ExceptHandler → List (Value × Option Nat × (Addr → Value → Option Addr → TS)) → Prop
  | nil : HdsA X [] []
  | cons {x : Str} {c : Value} {ts : Addr → Value → Option Addr → TS} {b₀ : Stmt} {suite : List Stmt} {np pos' : Pos} {hds : List ExceptHandler} {l : List (Value × Option Nat × (Addr → Value → Option Addr → TS))} (hc : Names X x c)
      (hsu : ∀ (a : Addr) (oe : Obj) (cls : Value) (d : Option Addr) (pn : List (Addr × Obj)), Zc cls d oe → (∃ vs, oe.data = .fields vs) → PSs (X.suite a ((a, oe) :: pn)) (b₀ :: suite) (ts a cls d)) (r : HdsA X hds l) :
      HdsA X (.ExceptHandler (some (.Name x np)) none (b₀ :: suite) pos' :: hds) ((c, none, ts) :: l)
  | consA {x n : Str} {i : Nat} {c : Value} {ts : Addr → Value → Option Addr → TS} {b₀ : Stmt} {suite : List Stmt} {np pos' : Pos} {hds : List ExceptHandler} {l : List (Value × Option Nat × (Addr → Value → Option Addr → TS))} (hi : X.N[i]? = some n) (hln : X.env.kindOf n = some .local) (hc : Names X x c)
      (hsu : ∀ (a : Addr) (oe : Obj) (cls : Value) (d : Option Addr) (pn : List (Addr × Obj)), Zc cls d oe → (∃ vs, oe.data = .fields vs) → PSs (X.suite a ((a, oe) :: pn)) (b₀ :: suite) (ts a cls d)) (r : HdsA X hds l) :
      HdsA X (.ExceptHandler (some (.Name x np)) (some n) (b₀ :: suite) pos' :: hds) ((c, some i, ts) :: l)
section
variable {X : Cx} {body : List Stmt} {h₀ : ExceptHandler} {hds : List ExceptHandler} {l : List (Value × Option Nat × (Addr → Value → Option Addr → TS))} {pos : Pos} {tb : WX → TS} {Wout : WX}
theorem ps_try_manyA (hs : X.stack = X.env :: X.outer) (hf : X.env.frame = some X.env.locals) (hN : X.N.Nodup) (tk : Takes X Wout)
    (hb : ∀ (W : WX) (pn : List (Addr × Obj)) (xe : Value → Shared → Prop), Takes (X.tr pn xe) W → PassesOwn (model X.prog X.w) X.A X.env xe → PSs (X.tr pn xe) body (tb W))
    (hh : HdsA X (h₀ :: hds) l) : PS X (.Try body (h₀ :: hds) [] [] pos) (fun D σ H => tb (wManyA X.K Wout D l) D σ H) := by
  refine ⟨fun pins s σ H D I h => ?_⟩
  have ok := I.ok
  have hfr : X.A.frames = some (X.env :: X.outer) := by rw [ok.frames, hs]
  refine wpAny_Try_except ?_
  refine wpAny_mono ((hb (wManyA X.K Wout D l) (X.pn ++ pins) (fun e s₁ => wpAny (model X.prog X.w) X.A (noteFrame e X.env) (fun _ s₂ => wpAny (model X.prog X.w) X.A (setFlight e none) (fun _ s₃ =>
    wpAny (model X.prog X.w) X.A (handleBy e X.env (h₀ :: hds)) (SP X pins D) X.xe s₃) X.xe s₂) X.xe s₁) (fun u s' xx => ?_) PassesOwn.looking).run [] s σ H D (I.toTry _) h) (fun f s1 hsp => ?_) (fun e s1 he => he)
  · obtain ⟨a, B, sI, pins', σ', H', cls, d, rfl, J', nb, up, sky, na, os, ag, w⟩ := xx
    have J : Inv X pins σ' H' sI := J'.ofTry ok
    have sky' : Sky B (X.env :: X.outer) a (Zc cls d) X.env.locals s'.heap := by rw [← hs]; exact sky
    show wpAny (model X.prog X.w) X.A (noteFrame (.ref a) X.env) _ _ _
    refine Sky.land Zc.steady hfr hf sky' fun h3 fl3 up3 => ?_
    have J3 : Inv X pins σ' H' { s' with heap := h3 } := J.landed nb fl3.1 (up.trans up3) os ag
    obtain ⟨oe3, vs3, he3, hz3, hd3⟩ := fl3.there
    have notFr : ∀ {h : Heap} {o : Obj} {vs : Array Value}, h.FunFrames B (X.env :: X.outer) → h.get? a = some o → o.data = .fields vs → a ∉ frs (X.env :: X.outer) := fun {h o vs} ff e dd hm => by
      obtain ⟨_, o', e', hnf⟩ := ff.mem hm
      rw [e] at e'; cases e'
      exact hnf _ dd
    have nfr := notFr fl3.2.2.1 he3 hd3
    have nL : a ≠ X.env.locals := fun z => nfr (List.mem_filterMap.mpr ⟨X.env, List.mem_cons_self, by rw [hf, z]⟩)
    have nF : a ∉ X.fs := fun hm => by
      obtain ⟨e, he, q⟩ := List.mem_filterMap.mp hm
      exact nfr (List.mem_filterMap.mpr ⟨e, List.mem_cons_of_mem _ he, q⟩)
    have S3 := J3.suite he3 hd3 na nL nF
    have LT : PySem.W.Looks (model X.prog X.w) h3 (typeOf (.ref a)) cls := fun A Q E s k q => wpAny_typeOf_ref (k _ _ he3) (by rw [hz3.1]; exact q)
    have test : ∀ {x : Str} {c : Value} {np : Pos} (hc : Names X x c) {Q : Value → Shared → Prop} {E : Value → Shared → Prop}, Q c { s' with heap := h3 } → wpAny (model X.prog X.w) (X.A.mark (some (.ref a))) (eval (.Name x np) X.env) Q E { s' with heap := h3 } := fun {x c np} hc {Q E} q => by
      obtain ⟨hg, hdbg, hm | ⟨hm, hv, hnn⟩⟩ := hc
      · exact ld_glob (X := X.suite a ((a, oe3) :: (X.pn ++ pins))) S3 hg hm q hdbg
      · exact ld_blt (X := X.suite a ((a, oe3) :: (X.pn ++ pins))) S3 hg hm hv q hnn hdbg
    have go : ∀ {hds' : List ExceptHandler} {l' : List (Value × Option Nat × (Addr → Value → Option Addr → TS))}, HdsA X hds' l' → wManyA X.K Wout D l' cls d σ' H' →
        wpAny (model X.prog X.w) X.A (handleBy (.ref a) X.env hds') (SP X pins D) X.xe { s' with heap := h3 } := by
      intro hds' l' hk
      induction hk with
      | nil =>
        intro w
        refine wpAny_handleBy_nil ?_
        obtain ⟨k1, k2, k3, oe, vs, T, oT, ts', he, hz, hd, h1, hr⟩ := id fl3
        unfold PySem.passOn
        refine wpAny_bind (wpAny_field he hd h1 ?_)
        rw [if_neg (show ¬ ((Value.ref T == Value.none) = true) from by simp)]
        have fin : wpAny (model X.prog X.w) X.A (setFlight (.ref a) X.env.frame) (fun _ s4 => wpAny (model X.prog X.w) X.A (throw (.ref a) : Sem Flow) (SP X pins D) X.xe s4) X.xe { s' with heap := h3 } := by
          rw [hf]
          refine HandSPX.setFlight_upZ fl3 fun h4 hh4 up4 => wpAny_throw (tk _ _ ?_)
          exact ⟨a, B, sI, pins, σ', H', cls, d, rfl, J, nb, (up.trans up3).trans up4, .inr (.inr (by rw [hs]; exact hh4)), na, os, ag, w⟩
        first
          | exact wpAny_bind (wpAny_pure (wpAny_bind fin))
          | exact wpAny_bind fin
      | @cons x c ts b₀ suite np pos' hds2 l2 hc hsu r ih =>
        intro w
        obtain ⟨b, hb1, hyes, hno⟩ := w
        refine wpAny_handleBy_cons (codeAny_handlers_test ?_) (by intro q; cases q)
        have LM := PySem.W.exm_one (M := model X.prog X.w) (J3.kIn) LT hb1
        refine test hc (LM.here ?_)
        cases b with
        | true =>
          refine codeAny_handlers_suite ?_
          refine HandSPX.lands_againZ fl3 fun h4 fl4 up4 => ?_
          have J4 : Inv X pins σ' H' { s' with heap := h4 } := J.landed nb fl4.1 ((up.trans up3).trans up4) os ag
          obtain ⟨oe4, vs4, he4, hz4, hd4⟩ := fl4.there
          have S4 := J4.suite he4 hd4 na nL nF
          refine wpAny_mono ((hsu a oe4 cls d (X.pn ++ pins) hz4 ⟨_, hd4⟩).run [] _ _ H' _ S4 (hyes rfl a na)) (fun f s6 hsp => ?_) (fun _ _ z => False.elim z)
          cases f with
          | next =>
            obtain ⟨σ6, H6, S6, q6⟩ := hsp
            exact ⟨_, _, S6.unsuite ok, q6⟩
          | brk =>
            obtain ⟨σ6, H6, S6, q6⟩ := hsp
            exact ⟨_, _, S6.unsuite ok, q6⟩
          | cont =>
            obtain ⟨σ6, H6, S6, q6⟩ := hsp
            exact ⟨_, _, S6.unsuite ok, q6⟩
          | ret u =>
            obtain ⟨v6, σ6, H6, S6, r6, q6⟩ := hsp
            exact ⟨_, _, _, S6.unsuite ok, r6, q6⟩
        | false =>
          show wpAny _ X.A (handleBy (.ref a) X.env hds2) _ _ _
          exact ih (hno rfl)
      | @consA x n i c ts b₀ suite np pos' hds2 l2 hi hln hc hsu r ih =>
        intro w
        obtain ⟨b, hb1, hyes, hno⟩ := w
        refine wpAny_handleBy_cons (codeAny_handlers_test ?_) (by intro q; cases q)
        have LM := PySem.W.exm_one (M := model X.prog X.w) (J3.kIn) LT hb1
        refine test hc (LM.here ?_)
        cases b with
        | true =>
          refine codeAny_handlers_suite_as ?_
          refine HandSPX.lands_againZ fl3 fun h4 fl4 up4 => ?_
          have J4 : Inv X pins σ' H' { s' with heap := h4 } := J.landed nb fl4.1 ((up.trans up3).trans up4) os ag
          obtain ⟨oe4, vs4, he4, hz4, hd4⟩ := fl4.there
          have S4 := J4.suite he4 hd4 na nL nF
          refine store_ok (X := X.suite a ((a, oe4) :: (X.pn ++ pins))) (v := .ref a) S4 hN hi (.inl hln) rfl (fun s5 S5 => ?_) (.inr hln)
          refine wpAny_mono ((hsu a oe4 cls d (X.pn ++ pins) hz4 ⟨_, hd4⟩).run [] s5 _ H' _ S5 (hyes rfl a na)) (fun f s6 hsp => ?_) (fun _ _ z => False.elim z)
          have end_ : ∀ {σ6 : L2.St} {H6 : Hp} {Q : Shared → Prop}, Inv (X.suite a ((a, oe4) :: (X.pn ++ pins))) [] σ6 H6 s6 → (∀ s7, Inv X pins (σ6.set i none) H6 s7 → Q s7) →
              wpAny (model X.prog X.w) X.A (do bindName X.env n .none; unbindBehindTheSuite X.env n pos') (fun _ s7 => Q s7) X.xe s6 := fun {σ6 H6 Q} S6 hq => gone_ok (S6.unsuite ok) hN hi hln hq
          cases f with
          | next =>
            obtain ⟨σ6, H6, S6, q6⟩ := hsp
            exact end_ S6 fun s7 J7 => ⟨_, _, J7, q6⟩
          | brk =>
            obtain ⟨σ6, H6, S6, q6⟩ := hsp
            exact end_ S6 fun s7 J7 => ⟨_, _, J7, q6⟩
          | cont =>
            obtain ⟨σ6, H6, S6, q6⟩ := hsp
            exact end_ S6 fun s7 J7 => ⟨_, _, J7, q6⟩
          | ret u =>
            obtain ⟨v6, σ6, H6, S6, r6, q6⟩ := hsp
            exact end_ S6 fun s7 J7 => ⟨_, _, _, J7, r6, q6⟩
        | false =>
          show wpAny _ X.A (handleBy (.ref a) X.env hds2) _ _ _
          exact ih (hno rfl)
    exact go hh w
  · cases f with
    | next =>
      obtain ⟨σ', H', J', q⟩ := hsp
      exact wpAny_execs_nil ⟨σ', H', J'.ofTry ok, q⟩
    | brk =>
      obtain ⟨σ', H', J', q⟩ := hsp
      exact ⟨σ', H', J'.ofTry ok, q⟩
    | cont =>
      obtain ⟨σ', H', J', q⟩ := hsp
      exact ⟨σ', H', J'.ofTry ok, q⟩
    | ret u =>
      obtain ⟨v, σ', H', J', r, q⟩ := hsp
      exact ⟨v, σ', H', J'.ofTry ok, r, q⟩
end
end LX
set_option maxHeartbeats 4000000
namespace LX
open PySem PySem.Spec PyProof.Rows L2 C8 SX
structure ValX (P : Program) (w : World) (K : PySem.W.Frag) (mg : Str → Option Value) (base : Heap) (k : Nat) (x : Str) (C : Addr) (kw : Str) (sp : Sp) : Prop where
  ex : ∃ (f : Addr) (fd : FuncData) (ps : List Str), XC K C ∧ PySem.W.findIn K (.ref C) "__init__" = some (some (.ref f)) ∧ PySem.W.typeIn K (.ref f) = some (.type "function") ∧ FnOk P w K mg base C8.CX0 k f fd ps sp ∧ mg x = some (.ref C) ∧ Binds K fd ps [] ∧
    KBn K fd ps 1 [kw] (fun us ws => us ++ ws) (fun vs zs => vs ++ zs)
def tMkV (C : Addr) (sp : Sp) (t : TA) : TE := fun σ H Q => t σ H fun vs H1 => vs.length = 1 ∧ ∀ a, H1 a = none → sp (.ref a :: vs) (upd H1 a (exo a C none)) (fun v H2 => v = .non ∧ Q (.ref a) H2) (fun _ _ _ => False)
section
variable {X : Cx} {k j : Nat} {C : Addr} {sp : Sp} {x kw : Str} {p pos kpos : Pos} {e : Expr} {es : List Expr} {ta : TE} {t tk : TA} {kws : List Keyword}
theorem run_mkV {pins : List (Addr × Obj)} {σ : L2.St} {H1 : Hp} {Q : VK} {s1 : Shared} {f : Addr} {fd : FuncData} {ps : List Str} {us : List Value} {kvs : List (Str × Value)} {vs : List V} {all : List Value} (T : XC X.K C) (iC : PySem.W.findIn X.K (.ref C) "__init__" = some (some (.ref f))) (tI : PySem.W.typeIn X.K (.ref f) = some (.type "function"))
    (F1 : FnOk X.prog X.w X.K X.mg X.base C8.CX0 k f fd ps sp) (hr : Room (k + 1) X.A) (I1 : Inv X pins σ H1 s1) (hus : us.length ≤ sizeLine) (hb : ∀ (s : Shared) (e : Value), X.K.In s.heap → BindsTo s fd ⟨e :: us, kvs⟩ (ps.zip (e :: all))) (r : Vals vs all)
    (q : ∀ a, H1 a = none → sp (.ref a :: vs) (upd H1 a (exo a C none)) (fun v H2 => v = .non ∧ Q (.ref a) H2) (fun _ _ _ => False)) : wpAny (model X.prog X.w) X.A (call (.ref C) us kvs) (EP X pins σ Q) X.xe s1 := by
  obtain ⟨nm, qn, N, bs, bm, sn, sub, ab, col, dd, k0, k1, k2, k3, k5, B, newId, initId, bmF, F, hC, hB, hA, hN, hp0, hob⟩ := T.data
  obtain ⟨hp, g, dr, tk, os⟩ := s1
  have hsz : hp.objs.size ≤ hp.objs.size + 1 := Nat.le_succ _
  have hn : H1 (hp.objs.size + 1) = none := I1.hok.fresh hsz
  have hq := q (hp.objs.size + 1) hn
  have kk : ∀ b o, hp.get? b = some o → ((hp.push (PySem.W.kdv_tup us)).push (PySem.HandSPX.excO C hp.objs.size)).get? b = some o := fun b o e => Heap.get?_push_of_some _ (Heap.get?_push_of_some _ e)
  have hget : ((hp.push (PySem.W.kdv_tup us)).push (PySem.HandSPX.excO C hp.objs.size)).get? (hp.objs.size + 1) = some (PySem.HandSPX.excO C hp.objs.size) := by heap_get
  have I2 : Inv X pins σ (upd H1 (hp.objs.size + 1) (exo (hp.objs.size + 1) C none)) ⟨(hp.push (PySem.W.kdv_tup us)).push (PySem.HandSPX.excO C hp.objs.size), g, dr, tk, os⟩ :=
    I1.laid (t' := tk) (a := hp.objs.size + 1) (o := exo (hp.objs.size + 1) C none) (h' := (hp.push (PySem.W.kdv_tup us)).push (PySem.HandSPX.excO C hp.objs.size)) kk hsz (exo_ok hget)
  have r2 : Vals (V.ref (hp.objs.size + 1) :: vs) (Value.ref (hp.objs.size + 1) :: all) := .cons rfl r
  refine wpAny_call (EV.call_kw (kw := kvs) F hB hA hN (I1.kIn _ _ hC) (PySem.W.looks_findIn I1.kIn iC) (fun self => PySem.W.bind_fn I1.kIn self tI) hus
    (codeAny_mono (F1.run _ X.stack _ _ ⟨Value.ref (hp.objs.size + 1) :: us, kvs⟩ (Value.ref (hp.objs.size + 1) :: all) _ _ (fun _ _ _ => False) (hr.make C us kvs) (I2.env0.make C us kvs) (hb _ _ I2.kIn) r2 hq) fun r s' hq' => ?_))
  cases r with
  | error er => exact hq'.elim
  | ok fl =>
    cases fl with
    | ret u =>
      obtain ⟨v, H', I3, rv, ev, q3⟩ := I2.after hq'
      subst ev
      exact ⟨rv, ⟨V.ref (hp.objs.size + 1), H', I3, rfl, q3⟩⟩
    | next => exact False.elim hq'
    | brk => exact False.elim hq'
    | cont => exact False.elim hq'
theorem pe_mkV (c : ValX X.prog X.w X.K X.mg X.base k x C kw sp) (hr : Room j X.A) (hk : k + 1 ≤ j) (hg : Gl X x) (ha : PA X (e :: es) t) (hdb : (x == ("__debug__" : Str)) = false := by decide)
    (he : starEach (e :: es) X.env = (false, eval e X.env) :: starEach es X.env := by rfl) (hpl : (backTo pos (starEach es X.env)).any (·.1) = false := by rfl) : PE X (.Call (.Name x p) (e :: es) [] pos) (tMkV C sp t) := by
  obtain ⟨f, fd, ps, T, iC, tI, F1, hm, hb, kb⟩ := c.ex
  refine ⟨fun pins s σ H Q I h => ?_⟩
  refine wpAny_Call_Name_kw (ld_glob I hg hm ?_ hdb)
  refine PySem.W.callWith_K (h₀ := X.base) I.ok.mod.kin T.kC (thn (ha.run pos pins s σ H _ I h) fun us s1 ⟨vs, H1, I1, r1, hz, q1⟩ => ⟨I1.kIn, ?_⟩) he hpl
  have lu : us.length = 1 := by rw [← Paired.length r1]; exact hz
  show wpAny _ _ (call (.ref C) us []) _ _ _
  refine run_mkV (kvs := []) T iC tI F1 (hr.mono hk) I1 (by rw [lu]; decide) (fun s e hK => ?_) r1 q1
  have hl : (e :: us).length = ps.length := by
    have := F1.len _ _ _ _ (q1 _ (I1.hok.fresh (Nat.le_refl _)))
    rw [List.length_cons, Paired.length r1] at this
    rw [List.length_cons]; exact this
  have b2 := hb s (e :: us) hK (by rw [List.append_nil]; exact hl)
  rw [List.append_nil] at b2
  exact b2
theorem pe_mkVk (c : ValX X.prog X.w X.K X.mg X.base k x C kw sp) (hr : Room j X.A) (hk : k + 1 ≤ j) (hg : Gl X x) (hkw : PK X kws tk) (hall : (backToKw pos (keywordEach kws X.env)).all (·.1.isSome) = true := by rfl) (hks : (backToKw pos (keywordEach kws X.env)).filterMap (·.1) = [kw] := by rfl)
    (hdb : (x == ("__debug__" : Str)) = false := by decide)
    (hpl : ((backTo pos (starEach [] X.env)).any (·.1) || (backToKw pos (keywordEach kws X.env)).any (·.1.isNone)) = false := by rfl) : PE X (.Call (.Name x p) [] kws pos) (tMkV C sp tk) := by
  obtain ⟨f, fd, ps, T, iC, tI, F1, hm, hb, kb⟩ := c.ex
  refine ⟨fun pins s σ H Q I h => ?_⟩
  refine wpAny_Call_Name_kw (ld_glob I hg hm ?_ hdb)
  refine PySem.W.callWith_KW0 (h₀ := X.base) I.ok.mod.kin T.kC hall (thn (hkw.run pos pins s σ H _ I h) fun ws s2 ⟨zs, H2, I2, rz, hz, q2⟩ => ⟨I2.kIn, ?_⟩) hpl
  rw [hks]
  have lw : ws.length = 1 := by rw [← Paired.length rz]; exact hz
  exact run_mkV (us := []) (kvs := [kw].zip ws) (all := ws) T iC tI F1 (hr.mono hk) I2 (Nat.zero_le _) (fun s e hK => kb.to s [e] ws hK rfl lw) rz q2
end
def ExV (H : Hp) (a C : Addr) (f : Str) (v : V) : Prop := ∃ dx, H a = some (exo a C (some dx)) ∧ H dx = some (exd dx [(f, v)])
theorem ExV.same {H H' : Hp} {a C : Addr} {f : Str} {v : V} (h : ExV H a C f v) (s : Same H H') : ExV H' a C f v := let ⟨dx, h1, h2⟩ := h; ⟨dx, s _ _ h1, s _ _ h2⟩
def ExD (H : Hp) (a D : Addr) : Prop := (∃ f v, ExV H a D f v) ∨ H a = some (ExO (.ref D) a)
theorem ExD.same {H H' : Hp} {a C : Addr} (h : ExD H a C) (s : Same H H') : ExD H' a C := h.elim (fun ⟨f, v, h⟩ => .inl ⟨f, v, h.same s⟩) fun h => .inr (s _ _ h)
theorem exd_inst {X : Cx} {pins : List (Addr × Obj)} {σ : L2.St} {H : Hp} {s : Shared} {a D : Addr} (I : Inv X pins σ H s) (h : ExD H a D) : ∃ (ox : Obj) (od : Option Obj), PySem.W.InstAt s.heap a ox D od := by
  rcases h with ⟨f, v, dx, h1, h2⟩ | h
  · obtain ⟨t1, ho⟩ := exo_at I.hok h1
    obtain ⟨mA, hns, rel⟩ := exd_at I.hok h2
    obtain ⟨o, _, _, e1, _⟩ := hns
    exact ⟨_, some o, ho, rfl, rfl, e1⟩
  · have x : ObjOk X.prog X.w H s.heap a (.ext fun h => ∃ (oe : Obj) (vs : Array Value), h.get? a = some oe ∧ Zc (.ref D) none oe ∧ oe.data = .fields vs ∧ vs[1]? = some .none ∧ vs[2]? = some .none ∧ 4 < vs.size) := I.hok a _ h
    obtain ⟨oe, vs, e, z, d, _⟩ := x.1
    refine ⟨oe, none, e, z.1, by unfold PySem.W.notCls; rw [d] <;> rfl, ?_⟩
    rw [z.2]; exact True.intro
def rIsV (K : PySem.W.Frag) : List V → Hp → VK → Prop := fun xs H Q => ∃ (D a : Addr) (c : V) (cv : Value) (b : Bool), ExcC K D ∧ xs = [.ref a, c] ∧ (∀ u, RelV c u → u = cv) ∧ PySem.W.kitOne K (.ref D) cv = some b ∧ ExD H a D ∧ Q (.bl b) H
theorem call_isV {X : Cx} : CallR X (.builtin "isinstance") (rIsV X.K) := by
  intro pins s σ H xs us Q I r h
  obtain ⟨D, a, c, cv, b, C, rfl, hcv, e, hd, q⟩ := h
  cases r with
  | cons rx rr =>
    cases rr with
    | cons rt rr =>
      cases rr
      cases rx
      have ec := hcv _ rt
      subst ec
      obtain ⟨ox, od, J⟩ := exd_inst I hd
      exact PySem.W.kia_one (EV.kitx_excD (od := od) C.hg C.hk C.hs C.hd C.ha C.hn C.ht C.hm) I.kIn J e (fun z => nomatch z) fun tk => ⟨.bl b, H, I.kept (t' := tk) fun _ _ z => z, rfl, q⟩
def tXfV (K : PySem.W.Frag) (f : Str) (te : TE) : TE := fun σ H Q => te σ H fun x H1 => ∃ (a C : Addr) (v : V), x = .ref a ∧ XfC K C ∧ PySem.W.findIn K (.ref C) f = some none ∧ ExV H1 a C f v ∧ Q v H1
theorem pe_xfV {X : Cx} {e : Expr} {te : TE} {pos : Pos} {n : Str} (K : PySem.W.Frag) (he : PE X e te) (hK : X.K = K := by rfl) (hb : attributeBase e n X.env (eval e X.env) = eval e X.env := by rfl) : PE X (.Attribute e n pos) (tXfV K n te) := by
  subst hK
  refine ⟨fun pins s σ H Q I h => ?_⟩
  refine attr_of hb (thn (he.run pins s σ H _ I h) fun u s1 hh => ?_)
  obtain ⟨x, H1, I1, rx, a, C, v, ex, T, hno, ⟨dx, h1, h2⟩, q⟩ := hh
  subst ex
  obtain rfl : u = Value.ref a := rx
  obtain ⟨t1, ho⟩ := exo_at I1.hok h1
  obtain ⟨mA, hns, hr⟩ := exd_at I1.hok h2
  obtain ⟨od, hod, hl⟩ := lookIn_ns hns
  obtain ⟨u, hu, ru⟩ := RelO.some_of (v := v) (o := mA n) (by have := hr n; rwa [show ([(n, v)] : List (Str × V)).lookup n = some v by simp] at this)
  have J : PySem.W.InstAt s1.heap a _ C (some od) := ⟨ho, rfl, rfl, hod⟩
  exact HandSPX.exc_get I1.kIn J T.ga T.gg T.exC (PySem.W.findObj_own T.hdC hno rfl (by rw [hl, hu])) (handed_of ru) ⟨v, H1, I1.tok _, ru, q⟩
theorem pe_exc0 {X : Cx} {C : Addr} {bmB : List Value} {B newId initId : String} {x : Str} {p pos : Pos} (F : ExcBaseFacts B newId initId bmB) (q : PySem.W.excIn X.K C bmB newId = true) (gC : X.mg x = some (.ref C)) (kC : PySem.W.keepIn X.K (.ref C) = true) (hg : Gl X x)
    (hdb : (x == ("__debug__" : Str)) = false := by decide) : PE X (.Call (.Name x p) [] [] pos) (fun σ H Q => ∀ a, H a = none → Q (.ref a) (upd H a (ExO (.ref C) a))) := by
  refine ⟨fun pins s σ H Q I h => ?_⟩
  refine wpAny_Call_Name_kw (ld_glob I hg gC ?_ hdb)
  refine PySem.W.callWith_K0 I.kIn kC ?_
  show wpAny _ _ (call (.ref C) []) _ _ _
  obtain ⟨bm, N, nm, qn, bs, hdct, sn, sub, ab, col, dd, k0, k1, k2, k3, k5, mN, hC, hN, hni, T⟩ := exc_obj I.kIn q
  refine wpAny_call_exc_subT F T hC hN hni (fun h' a hm => ?_) (by show 0 ≤ sizeLine; exact Nat.zero_le _)
  have hn : H a = none := I.hok.gone hm.new
  obtain ⟨t, ht, _, _⟩ := hm.there
  exact ⟨.ref a, upd H a (ExO (.ref C) a), I.laidN hm.keeps hm.new hn (exO_ok ht ⟨rfl, rfl⟩ rfl rfl rfl (show 4 < 6 by decide)), rfl, h a hn⟩
def rpr : PyData → Str
  | .none => "None"
  | .bool b => if b then "True" else "False"
  | .int i => toString i
  | .str x => reprText x
  | d => d.shown
def rprB : PyData → Bool
  | .int i => decide (i.natAbs.log2 < 1920)
  | .str x => decide ((reprText x).length ≤ sizeLine)
  | _ => true
theorem call_reprV {X : Cx} {j : Nat} (gd : X.A.guards = some []) (room : Room j X.A) (K : PySem.W.Frag) (hK : X.K = K := by rfl) : CallR X (.builtin "repr") (fun xs H Q => ∃ (v : V) (d : PyData) (k n : Nat), xs = [v] ∧ Dp K H v d ∧ Fit k n d ∧ k ≤ 60 ∧ n ≤ 1000000 ∧ rprB d = true ∧ Q (.str (rpr d)) H) := by
  subst hK
  intro pins s σ H xs us Q I rel want
  obtain ⟨v, d, k, n, rfl, hd, f, hk, hn, hb, q⟩ := want
  cases hd with
  | non =>
    obtain ⟨u, rfl, ru⟩ := vals1 rel
    cases ru
    exact PySem.P.repr_of_none ⟨.str "None", H, I.tok _, ⟨_, rfl⟩, q⟩
  | bl b =>
    obtain ⟨u, rfl, ru⟩ := vals1 rel
    cases ru
    exact PySem.P.repr_of_bool ⟨.str (if b then "True" else "False"), H, I.tok _, ⟨_, rfl⟩, q⟩
  | int i =>
    obtain ⟨u, rfl, t, rfl⟩ := vals1 rel
    exact PySem.P.repr_of_int (of_decide_eq_true hb) ⟨.str (toString i), H, I.tok _, ⟨_, rfl⟩, q⟩
  | str x =>
    obtain ⟨u, rfl, t, rfl⟩ := vals1 rel
    exact PySem.P.repr_of_str ⟨.str (reprText x), H, I.tok _, ⟨_, rfl⟩, q⟩ (of_decide_eq_true hb)
  | lst h1 h2 => exact call_reprG gd room pins s σ H _ us Q I rel ⟨_, _, rfl, .lst h1 h2, f.sho, PyData.hasDict_of_canLay _ f.lay, Nat.le_trans f.dep hk, f.size hn, q⟩
  | tup h1 h2 => exact call_reprG gd room pins s σ H _ us Q I rel ⟨_, _, rfl, .tup h1 h2, f.sho, PyData.hasDict_of_canLay _ f.lay, Nat.le_trans f.dep hk, f.size hn, q⟩
end LX
set_option maxHeartbeats 2000000
namespace Toy
open PySem L2 C8 SX LX
def top (i : Nat) : Stmt := PySem.Challenge.pw_allrows_k01_errors_and_what_they_keep.main.body.getD i (.Pass ⟨0, 0, 0, 0⟩)
structure BT (mg : Str → Option Value) : Prop where
  m_int : mg "int" = none
  m_len : mg "len" = none
  m_abs : mg "abs" = none
  m_tuple : mg "tuple" = none
  m_list : mg "list" = none
  m_isinstance : mg "isinstance" = none
  m_range : mg "range" = none
  m_max : mg "max" = none
  m_min : mg "min" = none
  m_repr : mg "repr" = none
local macro_rules | `(tactic| walk_at "c") => `(tactic| refine And.intro (by first | (show (0 : Int) < _; omega) | exact Or.inr ⟨by decide, by decide⟩ | exact Or.inl ⟨by decide, by decide⟩ | (exact ⟨by omega, by omega⟩)) ?_)
local macro_rules | `(tactic| walk_at "s1") => `(tactic| first | refine ⟨_, rfl, ?_⟩ | refine ⟨_, _, rfl, rfl, ?_⟩ | refine .inl ⟨_, rfl, ?_⟩ | walk_at "c")
local macro_rules | `(tactic| walk_at "ix") => `(tactic| refine ⟨_, _, _, _, rfl, rfl, SqL.of (by first | assumption | exact upd_same), rfl, ?_⟩)
local macro_rules | `(tactic| walk_at "s") => `(tactic| repeat (walk_at "s1"))
section
variable {P : Program} {w : World} {K : PySem.W.Frag} {mg : Str → Option Value} {base : Heap}
abbrev s_choose : Stmt := top 26
abbrev n_choose : List Str := ["box", "many", "digit", "raw"]
theorem sc_choose : FnScope n_choose ["box", "many"] (fnScope s_choose) := fnScope_by (by decide +kernel)
def spChoose : Sp := fun vs H Q _ => ∃ (b : Addr) (n : Int), vs = [.ref b, .int n] ∧ BoxAt b H ∧ 0 < n ∧ n < 1000 ∧
  ∀ (d : Int) (H' : Hp), 0 ≤ d → d < n → Bx b H H' → Q (.int d) H'
theorem ok_choose (T : BT mg) {f : Addr} {fd : FuncData} (F : Def K mg "_law_choose" s_choose f fd) (b : Binds K fd ["box", "many"] []) : Cal P w K mg base 1 "_law_choose" spChoose [] := by
  refine cal0 F b .nil sc_choose (fun vs H Q E h => ?_) (fun cdv A outer s H vs Q E hr h => ?_)
  · obtain ⟨b, n, rfl, _⟩ := h; rfl
  · obtain ⟨b, n, rfl, ⟨o, hb, x, y, z, rfl⟩, n0, n1, k⟩ := h
    refine ⟨_, (pss_cons (ps_if (pt_cmpR op_gt (pe_ix (ixl K) (pv 0) pe_int (fun _ _ => rfl)) pe_int (nomark _)) 
        (pss_cons (ps_set (i := 2) sc_choose.nd rfl (.inl rfl) (pe_op op_mod (pe_callTy call_int1 (by rfl) T.m_int PyProof.Rows.boot_int (pa_cons (pe_ix (ixl K) (pv 0) pe_int (fun _ _ => rfl)) pa_nil)) (pv 1)))
        (pss_cons (ps_asg (pe_op op_fdiv (pe_ix (ixl K) (pv 0) pe_int (fun _ _ => rfl)) (pv 1)) (pg_sub (pv 0) pe_int set_list))
        (pss_one (ps_ret (pv 2))
        )))
       pss_nil)
      (pss_cons (ps_asg (pe_op op_add (pe_ix (ixl K) (pv 0) pe_int (fun _ _ => rfl)) pe_int) (pg_sub (pv 0) pe_int set_list))
      (pss_cons (ps_set (i := 3) sc_choose.nd rfl (.inl rfl) (pe_op op_mod (pe_callTy call_int1 (by rfl) T.m_int PyProof.Rows.boot_int (pa_cons (pe_op op_add (pe_op op_mul (pe_op op_add (pe_ix (ixl K) (pv 0) pe_int (fun _ _ => rfl)) (pe_op op_mul pe_int (pe_ix (ixl K) (pv 0) pe_int (fun _ _ => rfl)))) pe_int) pe_int) pa_nil)) pe_int))
      (pss_cons (ps_asg (pe_op op_add (pe_op op_mod (pe_callTy call_int1 (by rfl) T.m_int PyProof.Rows.boot_int (pa_cons (pe_op op_add (pe_op op_mul (pv 3) pe_int) pe_int) pa_nil)) pe_int) pe_int) (pg_sub (pv 0) pe_int set_list))
      (pss_one (ps_ret (pe_op op_mod (pe_callTy call_int1 (by rfl) T.m_int PyProof.Rows.boot_int (pa_cons (pe_op op_fdiv (pe_op op_add (pe_op op_mul (pv 3) pe_int) (pe_ix (ixl K) (pv 0) pe_int (fun _ _ => rfl))) pe_int) pa_nil)) (pv 1)))
      ))))), ?_⟩
    walk_at "s"
    walk_at "ix"
    walk_at "s"
    refine ite2 (fun _ => ?_) (fun _ => ?_)
    · walk_at "s"
      walk_at "ix"
      walk_at "s"
      walk_at "ix"
      walk_at "s"
      refine ⟨_, _, _, _, rfl, rfl, hb, rfl, ?_⟩
      walk_at "s"
      exact k _ _ (Int.emod_nonneg _ (by omega)) (Int.emod_lt_of_pos _ n0) (Bx.mk _ _ _)
    · walk_at "s"
      walk_at "ix"
      walk_at "s"
      refine ⟨_, _, _, _, rfl, rfl, hb, rfl, ?_⟩
      walk_at "s"
      walk_at "ix"
      walk_at "s"
      walk_at "ix"
      walk_at "s"
      refine ⟨_, _, _, _, rfl, rfl, upd_same, rfl, ?_⟩
      walk_at "s"
      walk_at "ix"
      walk_at "s"
      exact k _ _ (Int.emod_nonneg _ (by omega)) (Int.emod_lt_of_pos _ n0) ((Bx.mk (x := x) (y := y) (z := z + 1)).trans (Bx.mk _ _ _))
abbrev s_one_of : Stmt := top 27
abbrev n_one_of : List Str := ["box", "some"]
theorem sc_one_of : FnScope n_one_of ["box", "some"] (fnScope s_one_of) := fnScope_by (by decide +kernel)
def spOne : PySem.W.Frag → Sp := fun K vs H Q _ => ∃ (b l : Addr) (xs : List V), vs = [.ref b, .ref l] ∧ BoxAt b H ∧ l ≠ b ∧ SqL K H l xs ∧ 0 < xs.length ∧ xs.length < 1000 ∧
  ∀ (v : V) (H' : Hp), v ∈ xs → Bx b H H' → Q v H'
theorem ok_one (T : BT mg) (c_choose : Cal P w K mg base 1 "_law_choose" spChoose []) {f : Addr} {fd : FuncData} (F : Def K mg "_law_one_of" s_one_of f fd) (b : Binds K fd ["box", "some"] []) : Cal P w K mg base 2 "_law_one_of" (spOne K) [] := by
  refine cal0 F b .nil sc_one_of (fun vs H Q E h => ?_) (fun cdv A outer s H vs Q E hr h => ?_)
  · obtain ⟨b, l, xs, rfl, _⟩ := h; rfl
  · obtain ⟨b, l, xs, rfl, hb, hlb, hl, h0, h1, k⟩ := h
    refine ⟨_, (pss_one (ps_ret (pe_ix (ixl K) (pv 1) (pe_c c_choose hr (by first | decide | omega) (by rfl) (pa_cons (pv 0) (pa_cons (pe_callB (lenK K) (by rfl) T.m_len PySem.boot_len (pa_cons (pv 1) pa_nil)) pa_nil))) (fun _ _ => rfl)))
      ), ?_⟩
    walk_at "s"
    refine ⟨_, _, rfl, .inl hl, ?_⟩
    refine ⟨b, (xs.length : Int), rfl, hb, by omega, by omega, fun d H' d0 d1 hB => ?_⟩
    have hd : d.toNat < xs.length := by omega
    refine ⟨_, _, _, xs[d.toNat], rfl, rfl, bk_seq hB hlb hl, ?_, ?_⟩
    · exact at_of (by omega) (List.getElem?_eq_getElem hd)
    · exact k _ _ (List.getElem_mem hd) hB
theorem s_ab : (Str.ofString "ab") = S [97, 98] := by decide +kernel
theorem s_a : (Str.ofString "a") = S [97] := by decide +kernel
theorem s_abc : (Str.ofString "abc") = S [97, 98, 99] := by decide +kernel
theorem s_xz : (Str.ofString "xz") = S [120, 122] := by decide +kernel
theorem s_z : (Str.ofString "z") = S [122] := by decide +kernel
theorem s_nil : (Str.ofString "") = S [] := by decide +kernel
abbrev s_seed : Stmt := top 25
abbrev n_seed : List Str := ["script", "k", "cell"]
theorem sc_seed : FnScope n_seed ["script", "k"] (fnScope s_seed) := fnScope_by (by decide +kernel)
def spSeed : PySem.W.Frag → Sp := fun K vs H Q _ => ∃ (a : Addr) (k : Nat) (ns : List Int), vs = [.ref a, .int k] ∧ SqL K H a (ns.map V.int) ∧ ns.length ≤ 63 ∧
  ∀ (p : Addr) (H' : Hp), Same H H' → H p = none → BoxAt p H' → Q (.ref p) H'
theorem int_at {ns : List Int} {i : Nat} (h : i < ns.length) : ∃ z : Int, (ns.map V.int)[i]? = some (.int z) := ⟨ns[i], by rw [List.getElem?_map, List.getElem?_eq_getElem h]; rfl⟩
theorem ok_seed (T : BT mg) {f : Addr} {fd : FuncData} (F : Def K mg "_law_seed" s_seed f fd) (b : Binds K fd ["script", "k"] []) : Cal P w K mg base 1 "_law_seed" (spSeed K) [] := by
  refine cal0 F b .nil sc_seed (fun vs H Q E h => ?_) (fun cdv A outer s H vs Q E hr h => ?_)
  · obtain ⟨a, k, ns, rfl, _⟩ := h; rfl
  · obtain ⟨a, k, ns, rfl, ha, hl, kk⟩ := h
    refine ⟨_, (pss_cons (ps_set (i := 2) sc_seed.nd rfl (.inl rfl) (pe_op op_add (pe_op op_mul pe_int (pv 1)) pe_int))
      (C8.pss_cut (ps_if (pt_cmpR op_lt (pv 1) (pe_callB (lenK K) (by rfl) T.m_len PySem.boot_len (pa_cons (pv 0) pa_nil)) (nomark _)) 
        (pss_one (ps_set (i := 2) sc_seed.nd rfl (.inl rfl) (pe_callB call_abs (by rfl) T.m_abs PyProof.Rows.boot_abs (pa_cons (pe_ix (ixl K) (pv 0) (pv 1) (fun _ _ => rfl)) pa_nil)))
        )
        (pss_one (ps_if (pt_cmpR op_gt (pe_callB (lenK K) (by rfl) T.m_len PySem.boot_len (pa_cons (pv 0) pa_nil)) pe_int (nomark _)) 
          (pss_one (ps_set (i := 2) sc_seed.nd rfl (.inl rfl) (pe_op op_add (pv 2) (pe_op op_mul (pe_op op_mod (pe_callTy call_int1 (by rfl) T.m_int PyProof.Rows.boot_int (pa_cons (pe_callB call_abs (by rfl) T.m_abs PyProof.Rows.boot_abs (pa_cons (pe_ix (ixl K) (pv 0) (pe_op op_mod (pe_callTy call_int1 (by rfl) T.m_int PyProof.Rows.boot_int (pa_cons (pv 1) pa_nil)) (pe_callB (lenK K) (by rfl) T.m_len PySem.boot_len (pa_cons (pv 0) pa_nil))) (fun _ _ => rfl)) pa_nil)) pa_nil)) pe_int) pe_int)))
          )
         pss_nil)
        ))
      (pss_one (ps_ret (pe_lst (pa_cons (pe_ifExp (pt_cmpR op_ge (pv 2) (pe_op op_pow pe_int pe_int) (nomark _)) (pv 2) pe_int) (pa_cons (pe_op op_add (pe_op op_mod (pe_callTy call_int1 (by rfl) T.m_int PyProof.Rows.boot_int (pa_cons (pe_op op_add (pe_op op_mul (pe_op op_mod (pe_callTy call_int1 (by rfl) T.m_int PyProof.Rows.boot_int (pa_cons (pv 2) pa_nil)) pe_int) pe_int) (pe_op op_mul pe_int (pv 1))) pa_nil)) pe_int) pe_int) (pa_cons pe_int pa_nil)))))
      ))), ?_⟩
    walk_at "s"
    refine ⟨fun σ H' => H' = H ∧ ∃ c : Int, σ = [some (.ref a), some (.int k), some (.int c)], ?_, ?_⟩
    · walk_at "s"
      refine ⟨_, _, rfl, .inl ha, ?_⟩
      walk_at "s"
      refine ite2 (fun hk => ?_) (fun hk => ?_)
      · rw [List.length_map, decide_eq_true_eq] at hk
        obtain ⟨z, hz⟩ := int_at (ns := ns) (i := k) (by omega)
        walk_at "s"
        refine ⟨_, _, _, .int z, rfl, rfl, ha, at_of rfl hz, ?_⟩
        walk_at "s"
        exact ⟨rfl, _, rfl⟩
      · walk_at "s"
        refine ⟨_, _, rfl, .inl ha, ?_⟩
        walk_at "s"
        refine ite2 (fun h0 => ?_) (fun h0 => ?_)
        · rw [List.length_map, decide_eq_true_eq] at h0
          have hn : 0 < (ns.length : Int) := by omega
          walk_at "s"
          refine ⟨_, _, rfl, .inl ha, ?_⟩
          refine ⟨_, _, rfl, rfl, by rw [List.length_map]; exact hn, ?_⟩
          have hm0 := Int.emod_nonneg (k : Int) (show ((ns.map V.int).length : Int) ≠ 0 by rw [List.length_map]; omega)
          have hm1 := Int.emod_lt_of_pos (k : Int) (show (0 : Int) < ((ns.map V.int).length : Int) by rw [List.length_map]; omega)
          obtain ⟨z, hz⟩ := int_at (ns := ns) (i := ((k : Int) % ((ns.map V.int).length : Int)).toNat) (by rw [List.length_map] at hm1 ⊢; omega)
          refine ⟨_, _, _, .int z, rfl, rfl, ha, at_of (by omega) hz, ?_⟩
          walk_at "s"
          exact ⟨rfl, _, rfl⟩
        · exact ⟨rfl, _, rfl⟩
    · rintro σ H' ⟨rfl, c, rfl⟩
      walk_at "s"
      refine ite2 (fun _ => ?_) (fun _ => ?_)
      · walk_at "s"
        exact ⟨(by show 3 ≤ sizeLine; decide), fun p hp => kk p _ (sm_new hp) hp (BoxAt.of upd_same)⟩
      · walk_at "s"
        exact ⟨(by show 3 ≤ sizeLine; decide), fun p hp => kk p _ (sm_new hp) hp (BoxAt.of upd_same)⟩
end
end Toy
set_option maxHeartbeats 2000000
namespace Toy
open PySem L2 C8 SX LX
local macro_rules | `(tactic| walk_at "c") => `(tactic| refine And.intro (by first | (show (0 : Int) < _; omega) | exact Or.inr ⟨by decide, by decide⟩ | exact Or.inl ⟨by decide, by decide⟩ | (exact ⟨by omega, by omega⟩)) ?_)
local macro_rules | `(tactic| walk_at "s1") => `(tactic| first | refine ⟨_, rfl, ?_⟩ | refine ⟨_, _, rfl, rfl, ?_⟩ | refine .inl ⟨_, rfl, ?_⟩ | walk_at "c")
local macro_rules | `(tactic| walk_at "ix") => `(tactic| refine ⟨_, _, _, _, rfl, rfl, SqL.of (by first | assumption | exact upd_same), rfl, ?_⟩)
local macro_rules | `(tactic| walk_at "s") => `(tactic| repeat (walk_at "s1"))
structure XG (mg : Str → Option Value) (n : Str) (C : Addr) : Prop where
  g : mg n = some (.ref C)
section
variable {P : Program} {w : World} {K : PySem.W.Frag} {mg : Str → Option Value} {base : Heap}
def spXInit (C : Addr) (f : Str) : Sp := fun vs H Q _ => ∃ (a : Addr) (v : V), vs = [.ref a, v] ∧ H a = some (exo a C none) ∧ ∀ dx, H dx = none → dx ≠ a → Q .non (upd (upd H dx (exd dx [(f, v)])) a (exo a C (some dx)))
theorem valX {x qual kw : Str} {C : Addr} {st : Stmt} {f : Addr} {fd : FuncData} {N ps : List Str} {k : Nat} {sp : Sp} (T : XC K C) (iC : PySem.W.findIn K (.ref C) "__init__" = some (some (.ref f))) (tI : PySem.W.typeIn K (.ref f) = some (.type "function")) (hm : mg x = some (.ref C)) (F : C8.Fun K "__init__" qual st f fd) (b : Binds K fd ps []) (kb : KBn K fd ps 1 [kw] (fun us ws => us ++ ws) (fun vs zs => vs ++ zs)) (S : FnScope N ps (C8.fnScope st)) (len : ∀ vs H Q E, sp vs H Q E → vs.length = ps.length)
    (hbody : ∀ (cdv : Value) (A : Around) (outer : List Env) (s : Shared) (H : Hp) (vs : List V) (Q : VK) (E : XK), Room k (A.deeper (PyProof.Rows.envOfC qual (C8.fnScope st) s.heap.objs.size f cdv)) → sp vs H Q E →
      ∃ t, PSs (cxOf C8.CX0 P w K mg base N qual (C8.fnScope st) f cdv A outer s H E).nox (C8.fnBody st) t ∧ t { nx := fun _ H' => Q .non H', rt := Q } (L2.start N vs) H) : ValX P w K mg base (k + 1) x C kw sp :=
  ⟨f, fd, ps, T, iC, tI, fn0 F S len hbody, hm, b, kb⟩
theorem made_read {C : Addr} {f : Str} {v : V} {H : Hp} {Q : VK} (k : ∀ a H', Same H H' → H a = none → ExV H' a C f v → Q (.ref a) H') (a : Addr) (ha : H a = none) :
    spXInit C f (.ref a :: [v]) (upd H a (exo a C none)) (fun v H2 => v = .non ∧ Q (.ref a) H2) (fun _ _ _ => False) := by
  refine ⟨a, v, rfl, upd_same, fun dx hdx nda => ⟨rfl, ?_⟩⟩
  rw [upd_ne nda] at hdx
  refine k a _ (fun c o e => ?_) ha ⟨dx, upd_same, by rw [upd_ne nda, upd_same]⟩
  rw [upd_ne (ne_of_none e ha), upd_ne (ne_of_none e hdx), upd_ne (ne_of_none e ha)]
  exact e
abbrev s_xi_InvalidReader : Stmt := inClass (top 2) 0
abbrev n_xi_InvalidReader : List Str := ["self", "word"]
theorem sc_xi_InvalidReader : FnScope n_xi_InvalidReader ["self", "word"] (fnScope s_xi_InvalidReader) := fnScope_by (by decide +kernel)
theorem ok_xi_InvalidReader {C : Addr} (T : XC K C) (g : mg "InvalidReader" = some (.ref C)) (n : PySem.W.findIn K (.ref C) "word" = some none) {f : Addr} (iC : PySem.W.findIn K (.ref C) "__init__" = some (some (.ref f))) (tI : PySem.W.typeIn K (.ref f) = some (.type "function")) {fd : FuncData} (F : C8.Fun K "__init__" "InvalidReader.__init__" s_xi_InvalidReader f fd) (b : Binds K fd ["self", "word"] []) (kb : KBn K fd ["self", "word"] 1 ["word"] (fun us ws => us ++ ws) (fun vs zs => vs ++ zs)) : ValX P w K mg base 1 "InvalidReader" C "word" (spXInit C "word") := by
  refine valX T iC tI g F b kb sc_xi_InvalidReader (fun vs H Q E h => ?_) (fun cdv A outer s H vs Q E hr h => ?_)
  · obtain ⟨a, v, rfl, _⟩ := h; rfl
  · obtain ⟨a, v, rfl, ha, k⟩ := h
    refine ⟨_, (pss_one (ps_ostG (pv 0) (pv 1))
      ), ?_⟩
    exact ⟨_, rfl, _, rfl, a, C, rfl, T, n, ha, fun dx h1 h2 => k dx h1 h2⟩
abbrev s_xi_InvalidChange : Stmt := inClass (top 3) 0
abbrev n_xi_InvalidChange : List Str := ["self", "word"]
theorem sc_xi_InvalidChange : FnScope n_xi_InvalidChange ["self", "word"] (fnScope s_xi_InvalidChange) := fnScope_by (by decide +kernel)
theorem ok_xi_InvalidChange {C : Addr} (T : XC K C) (g : mg "InvalidChange" = some (.ref C)) (n : PySem.W.findIn K (.ref C) "word" = some none) {f : Addr} (iC : PySem.W.findIn K (.ref C) "__init__" = some (some (.ref f))) (tI : PySem.W.typeIn K (.ref f) = some (.type "function")) {fd : FuncData} (F : C8.Fun K "__init__" "InvalidChange.__init__" s_xi_InvalidChange f fd) (b : Binds K fd ["self", "word"] []) (kb : KBn K fd ["self", "word"] 1 ["word"] (fun us ws => us ++ ws) (fun vs zs => vs ++ zs)) : ValX P w K mg base 1 "InvalidChange" C "word" (spXInit C "word") := by
  refine valX T iC tI g F b kb sc_xi_InvalidChange (fun vs H Q E h => ?_) (fun cdv A outer s H vs Q E hr h => ?_)
  · obtain ⟨a, v, rfl, _⟩ := h; rfl
  · obtain ⟨a, v, rfl, ha, k⟩ := h
    refine ⟨_, (pss_one (ps_ostG (pv 0) (pv 1))
      ), ?_⟩
    exact ⟨_, rfl, _, rfl, a, C, rfl, T, n, ha, fun dx h1 h2 => k dx h1 h2⟩
abbrev s_xi_InvalidTerm : Stmt := inClass (top 4) 0
abbrev n_xi_InvalidTerm : List Str := ["self", "at"]
theorem sc_xi_InvalidTerm : FnScope n_xi_InvalidTerm ["self", "at"] (fnScope s_xi_InvalidTerm) := fnScope_by (by decide +kernel)
theorem ok_xi_InvalidTerm {C : Addr} (T : XC K C) (g : mg "InvalidTerm" = some (.ref C)) (n : PySem.W.findIn K (.ref C) "at" = some none) {f : Addr} (iC : PySem.W.findIn K (.ref C) "__init__" = some (some (.ref f))) (tI : PySem.W.typeIn K (.ref f) = some (.type "function")) {fd : FuncData} (F : C8.Fun K "__init__" "InvalidTerm.__init__" s_xi_InvalidTerm f fd) (b : Binds K fd ["self", "at"] []) (kb : KBn K fd ["self", "at"] 1 ["at"] (fun us ws => us ++ ws) (fun vs zs => vs ++ zs)) : ValX P w K mg base 1 "InvalidTerm" C "at" (spXInit C "at") := by
  refine valX T iC tI g F b kb sc_xi_InvalidTerm (fun vs H Q E h => ?_) (fun cdv A outer s H vs Q E hr h => ?_)
  · obtain ⟨a, v, rfl, _⟩ := h; rfl
  · obtain ⟨a, v, rfl, ha, k⟩ := h
    refine ⟨_, (pss_one (ps_ostG (pv 0) (pv 1))
      ), ?_⟩
    exact ⟨_, rfl, _, rfl, a, C, rfl, T, n, ha, fun dx h1 h2 => k dx h1 h2⟩
abbrev s_xi_InvalidCount : Stmt := inClass (top 5) 0
abbrev n_xi_InvalidCount : List Str := ["self", "word"]
theorem sc_xi_InvalidCount : FnScope n_xi_InvalidCount ["self", "word"] (fnScope s_xi_InvalidCount) := fnScope_by (by decide +kernel)
theorem ok_xi_InvalidCount {C : Addr} (T : XC K C) (g : mg "InvalidCount" = some (.ref C)) (n : PySem.W.findIn K (.ref C) "word" = some none) {f : Addr} (iC : PySem.W.findIn K (.ref C) "__init__" = some (some (.ref f))) (tI : PySem.W.typeIn K (.ref f) = some (.type "function")) {fd : FuncData} (F : C8.Fun K "__init__" "InvalidCount.__init__" s_xi_InvalidCount f fd) (b : Binds K fd ["self", "word"] []) (kb : KBn K fd ["self", "word"] 1 ["word"] (fun us ws => us ++ ws) (fun vs zs => vs ++ zs)) : ValX P w K mg base 1 "InvalidCount" C "word" (spXInit C "word") := by
  refine valX T iC tI g F b kb sc_xi_InvalidCount (fun vs H Q E h => ?_) (fun cdv A outer s H vs Q E hr h => ?_)
  · obtain ⟨a, v, rfl, _⟩ := h; rfl
  · obtain ⟨a, v, rfl, ha, k⟩ := h
    refine ⟨_, (pss_one (ps_ostG (pv 0) (pv 1))
      ), ?_⟩
    exact ⟨_, rfl, _, rfl, a, C, rfl, T, n, ha, fun dx h1 h2 => k dx h1 h2⟩
abbrev s_xi_InvalidSum : Stmt := inClass (top 6) 0
abbrev n_xi_InvalidSum : List Str := ["self", "word"]
theorem sc_xi_InvalidSum : FnScope n_xi_InvalidSum ["self", "word"] (fnScope s_xi_InvalidSum) := fnScope_by (by decide +kernel)
theorem ok_xi_InvalidSum {C : Addr} (T : XC K C) (g : mg "InvalidSum" = some (.ref C)) (n : PySem.W.findIn K (.ref C) "word" = some none) {f : Addr} (iC : PySem.W.findIn K (.ref C) "__init__" = some (some (.ref f))) (tI : PySem.W.typeIn K (.ref f) = some (.type "function")) {fd : FuncData} (F : C8.Fun K "__init__" "InvalidSum.__init__" s_xi_InvalidSum f fd) (b : Binds K fd ["self", "word"] []) (kb : KBn K fd ["self", "word"] 1 ["word"] (fun us ws => us ++ ws) (fun vs zs => vs ++ zs)) : ValX P w K mg base 1 "InvalidSum" C "word" (spXInit C "word") := by
  refine valX T iC tI g F b kb sc_xi_InvalidSum (fun vs H Q E h => ?_) (fun cdv A outer s H vs Q E hr h => ?_)
  · obtain ⟨a, v, rfl, _⟩ := h; rfl
  · obtain ⟨a, v, rfl, ha, k⟩ := h
    refine ⟨_, (pss_one (ps_ostG (pv 0) (pv 1))
      ), ?_⟩
    exact ⟨_, rfl, _, rfl, a, C, rfl, T, n, ha, fun dx h1 h2 => k dx h1 h2⟩
abbrev s_xi_InvalidHouse : Stmt := inClass (top 7) 0
abbrev n_xi_InvalidHouse : List Str := ["self", "word"]
theorem sc_xi_InvalidHouse : FnScope n_xi_InvalidHouse ["self", "word"] (fnScope s_xi_InvalidHouse) := fnScope_by (by decide +kernel)
theorem ok_xi_InvalidHouse {C : Addr} (T : XC K C) (g : mg "InvalidHouse" = some (.ref C)) (n : PySem.W.findIn K (.ref C) "word" = some none) {f : Addr} (iC : PySem.W.findIn K (.ref C) "__init__" = some (some (.ref f))) (tI : PySem.W.typeIn K (.ref f) = some (.type "function")) {fd : FuncData} (F : C8.Fun K "__init__" "InvalidHouse.__init__" s_xi_InvalidHouse f fd) (b : Binds K fd ["self", "word"] []) (kb : KBn K fd ["self", "word"] 1 ["word"] (fun us ws => us ++ ws) (fun vs zs => vs ++ zs)) : ValX P w K mg base 1 "InvalidHouse" C "word" (spXInit C "word") := by
  refine valX T iC tI g F b kb sc_xi_InvalidHouse (fun vs H Q E h => ?_) (fun cdv A outer s H vs Q E hr h => ?_)
  · obtain ⟨a, v, rfl, _⟩ := h; rfl
  · obtain ⟨a, v, rfl, ha, k⟩ := h
    refine ⟨_, (pss_one (ps_ostG (pv 0) (pv 1))
      ), ?_⟩
    exact ⟨_, rfl, _, rfl, a, C, rfl, T, n, ha, fun dx h1 h2 => k dx h1 h2⟩
abbrev s_xi_InvalidSaying : Stmt := inClass (top 8) 0
abbrev n_xi_InvalidSaying : List Str := ["self", "word"]
theorem sc_xi_InvalidSaying : FnScope n_xi_InvalidSaying ["self", "word"] (fnScope s_xi_InvalidSaying) := fnScope_by (by decide +kernel)
theorem ok_xi_InvalidSaying {C : Addr} (T : XC K C) (g : mg "InvalidSaying" = some (.ref C)) (n : PySem.W.findIn K (.ref C) "word" = some none) {f : Addr} (iC : PySem.W.findIn K (.ref C) "__init__" = some (some (.ref f))) (tI : PySem.W.typeIn K (.ref f) = some (.type "function")) {fd : FuncData} (F : C8.Fun K "__init__" "InvalidSaying.__init__" s_xi_InvalidSaying f fd) (b : Binds K fd ["self", "word"] []) (kb : KBn K fd ["self", "word"] 1 ["word"] (fun us ws => us ++ ws) (fun vs zs => vs ++ zs)) : ValX P w K mg base 1 "InvalidSaying" C "word" (spXInit C "word") := by
  refine valX T iC tI g F b kb sc_xi_InvalidSaying (fun vs H Q E h => ?_) (fun cdv A outer s H vs Q E hr h => ?_)
  · obtain ⟨a, v, rfl, _⟩ := h; rfl
  · obtain ⟨a, v, rfl, ha, k⟩ := h
    refine ⟨_, (pss_one (ps_ostG (pv 0) (pv 1))
      ), ?_⟩
    exact ⟨_, rfl, _, rfl, a, C, rfl, T, n, ha, fun dx h1 h2 => k dx h1 h2⟩
abbrev s_xi_InvalidSight : Stmt := inClass (top 9) 0
abbrev n_xi_InvalidSight : List Str := ["self", "word"]
theorem sc_xi_InvalidSight : FnScope n_xi_InvalidSight ["self", "word"] (fnScope s_xi_InvalidSight) := fnScope_by (by decide +kernel)
theorem ok_xi_InvalidSight {C : Addr} (T : XC K C) (g : mg "InvalidSight" = some (.ref C)) (n : PySem.W.findIn K (.ref C) "word" = some none) {f : Addr} (iC : PySem.W.findIn K (.ref C) "__init__" = some (some (.ref f))) (tI : PySem.W.typeIn K (.ref f) = some (.type "function")) {fd : FuncData} (F : C8.Fun K "__init__" "InvalidSight.__init__" s_xi_InvalidSight f fd) (b : Binds K fd ["self", "word"] []) (kb : KBn K fd ["self", "word"] 1 ["word"] (fun us ws => us ++ ws) (fun vs zs => vs ++ zs)) : ValX P w K mg base 1 "InvalidSight" C "word" (spXInit C "word") := by
  refine valX T iC tI g F b kb sc_xi_InvalidSight (fun vs H Q E h => ?_) (fun cdv A outer s H vs Q E hr h => ?_)
  · obtain ⟨a, v, rfl, _⟩ := h; rfl
  · obtain ⟨a, v, rfl, ha, k⟩ := h
    refine ⟨_, (pss_one (ps_ostG (pv 0) (pv 1))
      ), ?_⟩
    exact ⟨_, rfl, _, rfl, a, C, rfl, T, n, ha, fun dx h1 h2 => k dx h1 h2⟩
abbrev s_xi_InvalidCondition : Stmt := inClass (top 10) 0
abbrev n_xi_InvalidCondition : List Str := ["self", "word"]
theorem sc_xi_InvalidCondition : FnScope n_xi_InvalidCondition ["self", "word"] (fnScope s_xi_InvalidCondition) := fnScope_by (by decide +kernel)
theorem ok_xi_InvalidCondition {C : Addr} (T : XC K C) (g : mg "InvalidCondition" = some (.ref C)) (n : PySem.W.findIn K (.ref C) "word" = some none) {f : Addr} (iC : PySem.W.findIn K (.ref C) "__init__" = some (some (.ref f))) (tI : PySem.W.typeIn K (.ref f) = some (.type "function")) {fd : FuncData} (F : C8.Fun K "__init__" "InvalidCondition.__init__" s_xi_InvalidCondition f fd) (b : Binds K fd ["self", "word"] []) (kb : KBn K fd ["self", "word"] 1 ["word"] (fun us ws => us ++ ws) (fun vs zs => vs ++ zs)) : ValX P w K mg base 1 "InvalidCondition" C "word" (spXInit C "word") := by
  refine valX T iC tI g F b kb sc_xi_InvalidCondition (fun vs H Q E h => ?_) (fun cdv A outer s H vs Q E hr h => ?_)
  · obtain ⟨a, v, rfl, _⟩ := h; rfl
  · obtain ⟨a, v, rfl, ha, k⟩ := h
    refine ⟨_, (pss_one (ps_ostG (pv 0) (pv 1))
      ), ?_⟩
    exact ⟨_, rfl, _, rfl, a, C, rfl, T, n, ha, fun dx h1 h2 => k dx h1 h2⟩
abbrev s_xi_InvalidRules : Stmt := inClass (top 11) 0
abbrev n_xi_InvalidRules : List Str := ["self", "word"]
theorem sc_xi_InvalidRules : FnScope n_xi_InvalidRules ["self", "word"] (fnScope s_xi_InvalidRules) := fnScope_by (by decide +kernel)
theorem ok_xi_InvalidRules {C : Addr} (T : XC K C) (g : mg "InvalidRules" = some (.ref C)) (n : PySem.W.findIn K (.ref C) "word" = some none) {f : Addr} (iC : PySem.W.findIn K (.ref C) "__init__" = some (some (.ref f))) (tI : PySem.W.typeIn K (.ref f) = some (.type "function")) {fd : FuncData} (F : C8.Fun K "__init__" "InvalidRules.__init__" s_xi_InvalidRules f fd) (b : Binds K fd ["self", "word"] []) (kb : KBn K fd ["self", "word"] 1 ["word"] (fun us ws => us ++ ws) (fun vs zs => vs ++ zs)) : ValX P w K mg base 1 "InvalidRules" C "word" (spXInit C "word") := by
  refine valX T iC tI g F b kb sc_xi_InvalidRules (fun vs H Q E h => ?_) (fun cdv A outer s H vs Q E hr h => ?_)
  · obtain ⟨a, v, rfl, _⟩ := h; rfl
  · obtain ⟨a, v, rfl, ha, k⟩ := h
    refine ⟨_, (pss_one (ps_ostG (pv 0) (pv 1))
      ), ?_⟩
    exact ⟨_, rfl, _, rfl, a, C, rfl, T, n, ha, fun dx h1 h2 => k dx h1 h2⟩
abbrev s_xi_InvalidBook : Stmt := inClass (top 12) 0
abbrev n_xi_InvalidBook : List Str := ["self", "word"]
theorem sc_xi_InvalidBook : FnScope n_xi_InvalidBook ["self", "word"] (fnScope s_xi_InvalidBook) := fnScope_by (by decide +kernel)
theorem ok_xi_InvalidBook {C : Addr} (T : XC K C) (g : mg "InvalidBook" = some (.ref C)) (n : PySem.W.findIn K (.ref C) "word" = some none) {f : Addr} (iC : PySem.W.findIn K (.ref C) "__init__" = some (some (.ref f))) (tI : PySem.W.typeIn K (.ref f) = some (.type "function")) {fd : FuncData} (F : C8.Fun K "__init__" "InvalidBook.__init__" s_xi_InvalidBook f fd) (b : Binds K fd ["self", "word"] []) (kb : KBn K fd ["self", "word"] 1 ["word"] (fun us ws => us ++ ws) (fun vs zs => vs ++ zs)) : ValX P w K mg base 1 "InvalidBook" C "word" (spXInit C "word") := by
  refine valX T iC tI g F b kb sc_xi_InvalidBook (fun vs H Q E h => ?_) (fun cdv A outer s H vs Q E hr h => ?_)
  · obtain ⟨a, v, rfl, _⟩ := h; rfl
  · obtain ⟨a, v, rfl, ha, k⟩ := h
    refine ⟨_, (pss_one (ps_ostG (pv 0) (pv 1))
      ), ?_⟩
    exact ⟨_, rfl, _, rfl, a, C, rfl, T, n, ha, fun dx h1 h2 => k dx h1 h2⟩
abbrev s_xi_InvalidText : Stmt := inClass (top 15) 0
abbrev n_xi_InvalidText : List Str := ["self", "at"]
theorem sc_xi_InvalidText : FnScope n_xi_InvalidText ["self", "at"] (fnScope s_xi_InvalidText) := fnScope_by (by decide +kernel)
theorem ok_xi_InvalidText {C : Addr} (T : XC K C) (g : mg "InvalidText" = some (.ref C)) (n : PySem.W.findIn K (.ref C) "at" = some none) {f : Addr} (iC : PySem.W.findIn K (.ref C) "__init__" = some (some (.ref f))) (tI : PySem.W.typeIn K (.ref f) = some (.type "function")) {fd : FuncData} (F : C8.Fun K "__init__" "InvalidText.__init__" s_xi_InvalidText f fd) (b : Binds K fd ["self", "at"] []) (kb : KBn K fd ["self", "at"] 1 ["at"] (fun us ws => us ++ ws) (fun vs zs => vs ++ zs)) : ValX P w K mg base 1 "InvalidText" C "at" (spXInit C "at") := by
  refine valX T iC tI g F b kb sc_xi_InvalidText (fun vs H Q E h => ?_) (fun cdv A outer s H vs Q E hr h => ?_)
  · obtain ⟨a, v, rfl, _⟩ := h; rfl
  · obtain ⟨a, v, rfl, ha, k⟩ := h
    refine ⟨_, (pss_one (ps_ostG (pv 0) (pv 1))
      ), ?_⟩
    exact ⟨_, rfl, _, rfl, a, C, rfl, T, n, ha, fun dx h1 h2 => k dx h1 h2⟩
abbrev s_xi_Bound : Stmt := inClass (top 19) 0
abbrev n_xi_Bound : List Str := ["self", "name"]
theorem sc_xi_Bound : FnScope n_xi_Bound ["self", "name"] (fnScope s_xi_Bound) := fnScope_by (by decide +kernel)
theorem ok_xi_Bound {C : Addr} (T : XC K C) (g : mg "Bound" = some (.ref C)) (n : PySem.W.findIn K (.ref C) "name" = some none) {f : Addr} (iC : PySem.W.findIn K (.ref C) "__init__" = some (some (.ref f))) (tI : PySem.W.typeIn K (.ref f) = some (.type "function")) {fd : FuncData} (F : C8.Fun K "__init__" "Bound.__init__" s_xi_Bound f fd) (b : Binds K fd ["self", "name"] []) (kb : KBn K fd ["self", "name"] 1 ["name"] (fun us ws => us ++ ws) (fun vs zs => vs ++ zs)) : ValX P w K mg base 1 "Bound" C "name" (spXInit C "name") := by
  refine valX T iC tI g F b kb sc_xi_Bound (fun vs H Q E h => ?_) (fun cdv A outer s H vs Q E hr h => ?_)
  · obtain ⟨a, v, rfl, _⟩ := h; rfl
  · obtain ⟨a, v, rfl, ha, k⟩ := h
    refine ⟨_, (pss_one (ps_ostG (pv 0) (pv 1))
      ), ?_⟩
    exact ⟨_, rfl, _, rfl, a, C, rfl, T, n, ha, fun dx h1 h2 => k dx h1 h2⟩
abbrev s_xi_NoRow : Stmt := inClass (top 20) 0
abbrev n_xi_NoRow : List Str := ["self", "name"]
theorem sc_xi_NoRow : FnScope n_xi_NoRow ["self", "name"] (fnScope s_xi_NoRow) := fnScope_by (by decide +kernel)
theorem ok_xi_NoRow {C : Addr} (T : XC K C) (g : mg "NoRow" = some (.ref C)) (n : PySem.W.findIn K (.ref C) "name" = some none) {f : Addr} (iC : PySem.W.findIn K (.ref C) "__init__" = some (some (.ref f))) (tI : PySem.W.typeIn K (.ref f) = some (.type "function")) {fd : FuncData} (F : C8.Fun K "__init__" "NoRow.__init__" s_xi_NoRow f fd) (b : Binds K fd ["self", "name"] []) (kb : KBn K fd ["self", "name"] 1 ["name"] (fun us ws => us ++ ws) (fun vs zs => vs ++ zs)) : ValX P w K mg base 1 "NoRow" C "name" (spXInit C "name") := by
  refine valX T iC tI g F b kb sc_xi_NoRow (fun vs H Q E h => ?_) (fun cdv A outer s H vs Q E hr h => ?_)
  · obtain ⟨a, v, rfl, _⟩ := h; rfl
  · obtain ⟨a, v, rfl, ha, k⟩ := h
    refine ⟨_, (pss_one (ps_ostG (pv 0) (pv 1))
      ), ?_⟩
    exact ⟨_, rfl, _, rfl, a, C, rfl, T, n, ha, fun dx h1 h2 => k dx h1 h2⟩
abbrev s_xi_Refused : Stmt := inClass (top 21) 0
abbrev n_xi_Refused : List Str := ["self", "at"]
theorem sc_xi_Refused : FnScope n_xi_Refused ["self", "at"] (fnScope s_xi_Refused) := fnScope_by (by decide +kernel)
theorem ok_xi_Refused {C : Addr} (T : XC K C) (g : mg "Refused" = some (.ref C)) (n : PySem.W.findIn K (.ref C) "at" = some none) {f : Addr} (iC : PySem.W.findIn K (.ref C) "__init__" = some (some (.ref f))) (tI : PySem.W.typeIn K (.ref f) = some (.type "function")) {fd : FuncData} (F : C8.Fun K "__init__" "Refused.__init__" s_xi_Refused f fd) (b : Binds K fd ["self", "at"] []) (kb : KBn K fd ["self", "at"] 1 ["at"] (fun us ws => us ++ ws) (fun vs zs => vs ++ zs)) : ValX P w K mg base 1 "Refused" C "at" (spXInit C "at") := by
  refine valX T iC tI g F b kb sc_xi_Refused (fun vs H Q E h => ?_) (fun cdv A outer s H vs Q E hr h => ?_)
  · obtain ⟨a, v, rfl, _⟩ := h; rfl
  · obtain ⟨a, v, rfl, ha, k⟩ := h
    refine ⟨_, (pss_one (ps_ostG (pv 0) (pv 1))
      ), ?_⟩
    exact ⟨_, rfl, _, rfl, a, C, rfl, T, n, ha, fun dx h1 h2 => k dx h1 h2⟩
abbrev s_xi_NoName : Stmt := inClass (top 22) 0
abbrev n_xi_NoName : List Str := ["self", "name"]
theorem sc_xi_NoName : FnScope n_xi_NoName ["self", "name"] (fnScope s_xi_NoName) := fnScope_by (by decide +kernel)
theorem ok_xi_NoName {C : Addr} (T : XC K C) (g : mg "NoName" = some (.ref C)) (n : PySem.W.findIn K (.ref C) "name" = some none) {f : Addr} (iC : PySem.W.findIn K (.ref C) "__init__" = some (some (.ref f))) (tI : PySem.W.typeIn K (.ref f) = some (.type "function")) {fd : FuncData} (F : C8.Fun K "__init__" "NoName.__init__" s_xi_NoName f fd) (b : Binds K fd ["self", "name"] []) (kb : KBn K fd ["self", "name"] 1 ["name"] (fun us ws => us ++ ws) (fun vs zs => vs ++ zs)) : ValX P w K mg base 1 "NoName" C "name" (spXInit C "name") := by
  refine valX T iC tI g F b kb sc_xi_NoName (fun vs H Q E h => ?_) (fun cdv A outer s H vs Q E hr h => ?_)
  · obtain ⟨a, v, rfl, _⟩ := h; rfl
  · obtain ⟨a, v, rfl, ha, k⟩ := h
    refine ⟨_, (pss_one (ps_ostG (pv 0) (pv 1))
      ), ?_⟩
    exact ⟨_, rfl, _, rfl, a, C, rfl, T, n, ha, fun dx h1 h2 => k dx h1 h2⟩
abbrev s_xi_NoMark : Stmt := inClass (top 23) 0
abbrev n_xi_NoMark : List Str := ["self", "mark"]
theorem sc_xi_NoMark : FnScope n_xi_NoMark ["self", "mark"] (fnScope s_xi_NoMark) := fnScope_by (by decide +kernel)
theorem ok_xi_NoMark {C : Addr} (T : XC K C) (g : mg "NoMark" = some (.ref C)) (n : PySem.W.findIn K (.ref C) "mark" = some none) {f : Addr} (iC : PySem.W.findIn K (.ref C) "__init__" = some (some (.ref f))) (tI : PySem.W.typeIn K (.ref f) = some (.type "function")) {fd : FuncData} (F : C8.Fun K "__init__" "NoMark.__init__" s_xi_NoMark f fd) (b : Binds K fd ["self", "mark"] []) (kb : KBn K fd ["self", "mark"] 1 ["mark"] (fun us ws => us ++ ws) (fun vs zs => vs ++ zs)) : ValX P w K mg base 1 "NoMark" C "mark" (spXInit C "mark") := by
  refine valX T iC tI g F b kb sc_xi_NoMark (fun vs H Q E h => ?_) (fun cdv A outer s H vs Q E hr h => ?_)
  · obtain ⟨a, v, rfl, _⟩ := h; rfl
  · obtain ⟨a, v, rfl, ha, k⟩ := h
    refine ⟨_, (pss_one (ps_ostG (pv 0) (pv 1))
      ), ?_⟩
    exact ⟨_, rfl, _, rfl, a, C, rfl, T, n, ha, fun dx h1 h2 => k dx h1 h2⟩
end
end Toy
set_option maxHeartbeats 2000000
namespace LX
open PySem PySem.Spec PyProof.Rows L2 C8 SX
mutual
theorem dp_same {K : PySem.W.Frag} {H H' : Hp} (s : Same H H') : ∀ (d : PyData) (v : V), Dp K H v d → Dp K H' v d
  | .none, _, h => by cases h; exact .non
  | .bool b, _, h => by cases h; exact .bl b
  | .int i, _, h => by cases h; exact .int i
  | .str x, _, h => by cases h; exact .str x
  | .list ds, _, h => by
    cases h with
    | lst hs ha => exact .lst (s.seq hs) (dpa_same s ds _ ha)
  | .tuple ds, _, h => by
    cases h with
    | tup hs ha => exact .tup (sm_seqT s hs) (dpa_same s ds _ ha)
  | .dict _, _, h => by cases h
theorem dpa_same {K : PySem.W.Frag} {H H' : Hp} (s : Same H H') : ∀ (ds : List PyData) (vs : List V), DpAll K H vs ds → DpAll K H' vs ds
  | [], _, h => by cases h; exact .nil
  | d :: ds, _, h => by
    cases h with
    | cons h1 h2 => exact .cons (dp_same s d _ h1) (dpa_same s ds _ h2)
end
theorem dpa_len {K : PySem.W.Frag} {H : Hp} : ∀ {vs : List V} {ds : List PyData}, DpAll K H vs ds → vs.length = ds.length
  | _, _, .nil => rfl
  | _, _, .cons _ h => by rw [List.length_cons, List.length_cons, dpa_len h]
theorem dpa_at {K : PySem.W.Frag} {H : Hp} : ∀ {vs : List V} {ds : List PyData}, DpAll K H vs ds → ∀ (i : Nat) (v : V), vs[i]? = some v → ∃ d, ds[i]? = some d ∧ Dp K H v d
  | _, _, .nil, i, v, h => by simp at h
  | _, _, .cons h _, 0, v, e => by cases e; exact ⟨_, rfl, h⟩
  | _, _, .cons _ h, i + 1, v, e => dpa_at h i v e
def wo (B : List Addr) (H : Hp) : Hp := fun a => if a ∈ B then none else H a
def Liv (B : List Addr) (H : Hp) : Prop := ∀ b ∈ B, H b ≠ none
section
variable {B : List Addr} {H H' : Hp} {a : Addr} {o : HO}
theorem wo_in (h : a ∈ B) : wo B H a = none := if_pos h
theorem wo_out (h : a ∉ B) : wo B H a = H a := if_neg h
theorem wo_get (h : H a = some o) (n : a ∉ B) : wo B H a = some o := (wo_out n).trans h
theorem of_wo (h : wo B H a = some o) : H a = some o ∧ a ∉ B := by
  by_cases n : a ∈ B
  · rw [wo_in n] at h; cases h
  · exact ⟨(wo_out n).symm.trans h, n⟩
theorem wo_same (s : Same H H') : Same (wo B H) (wo B H') := fun a o h => let ⟨e, n⟩ := of_wo h; wo_get (s _ _ e) n
theorem wo_sub : Same (wo B H) H := fun _ _ h => (of_wo h).1
theorem wo_cons {b : Addr} : Same (wo (b :: B) H) (wo B H) := fun a o h => let ⟨e, n⟩ := of_wo h; wo_get e fun m => n (List.mem_cons_of_mem _ m)
theorem wo_upd_in (h : a ∈ B) : wo B (upd H a o) = wo B H := by
  funext c
  by_cases n : c ∈ B
  · rw [wo_in n, wo_in n]
  · rw [wo_out n, wo_out n, upd_ne (fun e => n (by rw [e]; exact h))]
theorem Liv.same (l : Liv B H) (s : Same H H') : Liv B H' := fun b hb e => by
  cases q : H b with
  | none => exact l b hb q
  | some o => rw [s _ _ q] at e; cases e
theorem Liv.new (l : Liv B H) (h : H a = none) : a ∉ B := fun m => l a m h
theorem Liv.cons {b : Addr} (l : Liv B H) (h : H b = some o) : Liv (b :: B) H := fun c hc e => by
  rcases List.mem_cons.mp hc with rfl | m
  · rw [h] at e; cases e
  · exact l c m e
theorem same_new {p : Addr} (s : Same H H') (h : H' p = none) : H p = none := by
  cases e : H p with
  | none => rfl
  | some o => rw [s _ _ e] at h; cases h
end
def RD (K : PySem.W.Frag) (B : List Addr) (t : TE) (d : PyData) (σ : L2.St) (H : Hp) : Prop := Liv B H → ∀ Q : VK, (∀ v H', Same H H' → Dp K (wo B H') v d → Q v H') → t σ H Q
def RDs (K : PySem.W.Frag) (B : List Addr) (t : TA) (ds : List PyData) (σ : L2.St) (H : Hp) : Prop := Liv B H → ∀ Q : List V → Hp → Prop, (∀ vs H', Same H H' → DpAll K (wo B H') vs ds → Q vs H') → t σ H Q
theorem dpa_of {K : PySem.W.Frag} {H : Hp} : ∀ {ys : List V} {n : Nat} {dd : Nat → PyData}, ys.length = n → (∀ (j : Nat) y, ys[j]? = some y → Dp K H y (dd j)) → DpAll K H ys ((List.range n).map dd)
  | [], _, _, hl, _ => by subst hl; exact .nil
  | y :: ys, _, dd, hl, h => by
    subst hl
    rw [List.length_cons, List.range_succ_eq_map, List.map_cons, List.map_map]
    exact .cons (h 0 y rfl) (dpa_of (dd := dd ∘ Nat.succ) rfl fun j z e => h (j + 1) z e)
section
variable {K : PySem.W.Frag} {B : List Addr} {σ : L2.St} {H : Hp} {t : TE} {ta : TA} {d : PyData} {ds : List PyData}
theorem rd_non : RD K B (tC .non) .none σ H := fun _ _ q => q _ H (Same.refl H) .non
theorem rd_int {i : Int} : RD K B (tC (.int i)) (.int i) σ H := fun _ _ q => q _ H (Same.refl H) (.int i)
theorem rd_bl {b : Bool} : RD K B (tC (.bl b)) (.bool b) σ H := fun _ _ q => q _ H (Same.refl H) (.bl b)
theorem rd_str {x : Str} : RD K B (tC (.str x)) (.str x) σ H := fun _ _ q => q _ H (Same.refl H) (.str x)
theorem rd_var {i : Nat} {v : V} (e : σ[i]? = some (some v)) (h : Dp K (wo B H) v d) : RD K B (tVar i) d σ H := fun _ _ q => ⟨v, e, q _ H (Same.refl H) h⟩
theorem rd_nil : RDs K B tNil [] σ H := fun _ _ q => q _ H (Same.refl H) .nil
theorem rd_cons (h1 : RD K B t d σ H) (h2 : ∀ H', Same H H' → Liv B H' → RDs K B ta ds σ H') : RDs K B (tCons t ta) (d :: ds) σ H := fun l _ q =>
  h1 l _ fun v H1 s1 hv => h2 H1 s1 (l.same s1) (l.same s1) _ fun vs H2 s2 hvs => q _ H2 (s1.trans s2) (.cons (dp_same (wo_same s2) _ _ hv) hvs)
theorem rd_lst (h : RDs K B ta ds σ H) (hl : ds.length ≤ sizeLine := by decide) : RD K B (tLst ta) (.list ds) σ H := fun l _ q =>
  h l _ fun vs H1 s1 hvs => ⟨by rw [dpa_len hvs]; exact hl, fun p hp => q _ _ (s1.trans (sm_new hp)) (.lst (SqL.of (wo_get upd_same ((l.same s1).new hp))) (dpa_same (wo_same (sm_new hp)) _ _ hvs))⟩
theorem rd_tup (h : RDs K B ta ds σ H) (hl : ds.length ≤ sizeLine := by decide) : RD K B (tTup ta) (.tuple ds) σ H := fun l _ q =>
  h l _ fun vs H1 s1 hvs => ⟨by rw [dpa_len hvs]; exact hl, fun p hp => q _ _ (s1.trans (sm_new hp)) (.tup (SqT.of (wo_get upd_same ((l.same s1).new hp))) (dpa_same (wo_same (sm_new hp)) _ _ hvs))⟩
theorem rd_lstA {Q : VK} (l : Liv B H) (h : RDs K B ta ds σ H) (hl : ds.length ≤ sizeLine) (q : ∀ p xs H', Same H H' → H p = none → H' p = some (.lst xs) → DpAll K (wo B H') xs ds → Q (.ref p) H') : tLst ta σ H Q :=
  h l _ fun vs H1 s1 hvs => ⟨by rw [dpa_len hvs]; exact hl, fun p hp => q p vs _ (s1.trans (sm_new hp)) (same_new s1 hp) upd_same (dpa_same (wo_same (sm_new hp)) _ _ hvs)⟩
theorem gn1 {i : Nat} {v : V} {Q : L2.St → Hp → Prop} (h : Q (σ.set i (some v)) H) : gName i v σ H Q := h
theorem pr1 {k : V} {tv : TE} {Q : List (V × V) → Hp → Prop} (h : tv σ H fun y H2 => Q [(k, y)] H2) : tPairs [(tC k, tv)] σ H Q := h
theorem lc_rd {J : It} {n : Nat} {G : Hp → Prop} {Y : Nat → Hp → V → Hp → Prop} {H1 : Hp} (w : Walk J n G Y) {g : TG} {te : TE} {vs : List Nat} {D : Addr} {Qd : Hp → Prop} (hB : Liv B H1) (hD : H1 D = none) (hn : n < sizeLine) (dd : Nat → PyData) (hG : ∀ H, Same H1 H → G H)
    (hs : ∀ i x H H' (R : V → Hp → Prop), i < n → Same H1 H → Liv (D :: B) H → Y i H x H' → (∀ y H4, Same H H4 → Dp K (wo (D :: B) H4) y (dd i) → R y H4) → g x (wipe σ vs) H' fun σ2 H2 => wipe σ2 vs = wipe σ vs ∧ te σ2 H2 R)
    (hd : ∀ ys H, Same H1 H → H D = some (.lst ys) → DpAll K (wo B H) ys ((List.range n).map dd) → Dp K (wo B H) (.ref D) (.list ((List.range n).map dd)) → Qd H) :
    ∃ W : Nat → Nat → Hp → Prop, (∃ m, W 0 m (upd H1 D (.lst []))) ∧ ∀ i m H, W i m H →
      (J.stop i H ∧ Qd H) ∨ (J.go i H ∧ ∃ Nx : Hp → Prop, (∀ H', Nx H' → ∃ m', m' < m ∧ W (i + 1) m' H') ∧ ∀ x H', J.yld i H x H' → g x (wipe σ vs) H' fun σ2 H2 => wipe σ2 vs = wipe σ vs ∧ tYes σ2 H2 fun b H3 =>
        if b = true then te σ2 H3 fun y H4 => ∃ acc, H4 D = some (.lst acc) ∧ acc.length < sizeLine ∧ Nx (upd H4 D (.lst (acc ++ [y]))) else Nx H3) := by
  refine lc_keepH keep_same w hD hn (fun i y H => Dp K (wo (D :: B) H) y (dd i)) hG (fun i y H H' _ r h => dp_same (wo_same r) _ _ h) (fun i y H acc o _ _ h => by rw [wo_upd_in List.mem_cons_self]; exact h) (fun i x H H' acc R hi r hDa hy hR => hs i x H H' R hi r ((hB.same r).cons hDa) hy hR) (fun ys H hl hg r hDs => ?_)
  have ha := dpa_of hl fun j y e => dp_same wo_cons _ _ (hg j y e)
  exact hd ys H r hDs ha (.lst (SqL.of (wo_get hDs (hB.new hD))) ha)
end
end LX
set_option maxHeartbeats 2000000
namespace Toy
open PySem L2 C8 SX LX
local macro_rules | `(tactic| walk_at "c") => `(tactic| refine And.intro (by first | (show (0 : Int) < _; omega) | exact Or.inr ⟨by decide, by decide⟩ | exact Or.inl ⟨by decide, by decide⟩ | (exact ⟨by omega, by omega⟩)) ?_)
local macro_rules | `(tactic| walk_at "s1") => `(tactic| first | refine ⟨_, rfl, ?_⟩ | refine ⟨_, _, rfl, rfl, ?_⟩ | refine .inl ⟨_, rfl, ?_⟩ | walk_at "c")
local macro_rules | `(tactic| walk_at "ix") => `(tactic| refine ⟨_, _, _, _, rfl, rfl, SqL.of (by first | assumption | exact upd_same), rfl, ?_⟩)
local macro_rules | `(tactic| walk_at "s") => `(tactic| repeat (walk_at "s1"))
theorem bx_wo {b : Addr} {B : List Addr} {H H' : Hp} (s : Bx b H H') (h : b ∈ B) : Same (wo B H) (wo B H') := fun a o e => let ⟨e, n⟩ := of_wo e; wo_get (s.1 _ _ (fun z => n (by rw [z]; exact h)) e) n
theorem live_bx {b : Addr} {B : List Addr} {H H' : Hp} (l : Liv B H) (s : Bx b H H') : Liv B H' := fun c hc e => by
  by_cases n : c = b
  · subst n; obtain ⟨o, h, _⟩ := s.2; rw [h] at e; cases e
  · cases q : H c with
    | none => exact l c hc q
    | some o => rw [s.1 _ _ n q] at e; cases e
theorem dpa_ex {K : PySem.W.Frag} {H : Hp} {P : PyData → Prop} : ∀ {ys : List V}, (∀ (j : Nat) y, ys[j]? = some y → ∃ d, Dp K H y d ∧ P d) → ∃ ds, DpAll K H ys ds ∧ ∀ d ∈ ds, P d
  | [], _ => ⟨[], .nil, fun _ h => nomatch h⟩
  | y :: ys, h => by
    obtain ⟨d, h1, h2⟩ := h 0 y rfl
    obtain ⟨ds, h3, h4⟩ := dpa_ex (ys := ys) fun j z e => h (j + 1) z e
    exact ⟨d :: ds, .cons h1 h3, fun x hx => by rcases List.mem_cons.mp hx with rfl | hx; exact h2; exact h4 x hx⟩
section
variable {P : Program} {w : World} {K : PySem.W.Frag} {mg : Str → Option Value} {base : Heap}
def dAny : List PyData := [.none, .bool true, .bool false, .int 0, .int 1, .int (-2), .int 1000000000, .str "", .str "a", .str "ab", .str "xx", .str "row", .str "[a,b]", .str "'a'", .tuple [], .list [], .str "A", .str "house ab"]
def wAny : Nat → Nat
  | 0 => 40
  | n + 1 => 2 * (wAny n + 1) + 40
theorem w40 : ∀ m, 40 ≤ wAny m
  | 0 => Nat.le_refl _
  | m + 1 => by unfold wAny; omega
theorem any_fit : ∀ d ∈ dAny, Fit 2 40 d ∧ rprB d = true := by
  have h : ∀ d ∈ dAny, d.canLay0 = true ∧ d.intsShort 13 = true ∧ d.showable = true ∧ d.depth ≤ 2 ∧ d.weight ≤ 40 ∧ rprB d = true := by decide +kernel
  exact fun d hd => ⟨⟨(h d hd).1, (h d hd).2.1, (h d hd).2.2.1, (h d hd).2.2.2.1, (h d hd).2.2.2.2.1⟩, (h d hd).2.2.2.2.2⟩
abbrev s_any : Stmt := top 28
abbrev n_any : List Str := ["box", "deep", "some", "found", "turn"]
theorem sc_any : FnScope n_any ["box", "deep"] (fnScope s_any) := fnScope_by (by decide +kernel)
def spAnyAt (K : PySem.W.Frag) (m : Nat) : Sp := fun vs H Q _ => ∃ (b : Addr) (B : List Addr), vs = [.ref b, .int m] ∧ BoxAt b H ∧ b ∈ B ∧ Liv B H ∧ ∀ (v : V) (d : PyData) (H' : Hp), Bx b H H' → Dp K (wo B H') v d → Fit (2 + 2 * m) (wAny m) d → rprB d = true → Q v H'
def spAny (K : PySem.W.Frag) (n : Nat) : Sp := fun vs H Q E => ∃ m, m < n ∧ spAnyAt K m vs H Q E
theorem ok_any0 {f : Addr} {fd : FuncData} (F : Def K mg "_law_any" s_any f fd) (b : Binds K fd ["box", "deep"] []) : Cal P w K mg base 3 "_law_any" (spAny K 0) [] :=
  ⟨f, fd, ["box", "deep"], [], ⟨fun _ _ _ _ h => absurd h.choose_spec.1 (Nat.not_lt_zero _), fun _ _ _ _ _ _ _ _ _ _ _ _ _ h => absurd h.choose_spec.1 (Nat.not_lt_zero _)⟩, F.mgf, F.kp, b, .nil⟩
theorem ok_any1 (T : BT mg) (c_choose : Cal P w K mg base 1 "_law_choose" spChoose []) (c_one_of : Cal P w K mg base 2 "_law_one_of" (spOne K) []) {n : Nat} (c_any : Cal P w K mg base (3 + n) "_law_any" (spAny K n) []) {f : Addr} {fd : FuncData} (F : Def K mg "_law_any" s_any f fd) (b : Binds K fd ["box", "deep"] []) : Cal P w K mg base (3 + n + 1) "_law_any" (spAny K (n + 1)) [] := by
  refine cal0 F b .nil sc_any (fun vs H Q E h => ?_) (fun cdv A outer s H vs Q E hr h => ?_)
  · obtain ⟨m, _, b, B, rfl, _⟩ := h; rfl
  · obtain ⟨m, hmn, b, B, rfl, hb, hbB, lb, k⟩ := h
    refine ⟨_, (pss_cons (ps_set (i := 2) sc_any.nd rfl (.inl rfl) (pe_lst (pa_cons pe_non (pa_cons pe_bl (pa_cons pe_bl (pa_cons pe_int (pa_cons pe_int (pa_cons (pe_un un_neg pe_int) (pa_cons (pe_op op_pow pe_int pe_int) (pa_cons pe_str (pa_cons pe_str (pa_cons pe_str (pa_cons pe_str (pa_cons pe_str (pa_cons pe_str (pa_cons pe_str (pa_cons (pe_tup pa_nil) (pa_cons (pe_lst pa_nil) (pa_cons pe_str (pa_cons pe_str pa_nil))))))))))))))))))))
      (pss_cons (ps_if (PW.pt (pw_or (pt_cmpR op_eq (pv 1) pe_int (nomark _)) (pw_or1 (pt_cmpR op_gt (pe_c c_choose hr (by first | decide | omega) (by rfl) (pa_cons (pv 0) (pa_cons pe_int pa_nil))) pe_int (nomark _))))) 
        (pss_one (ps_ret (pe_c c_one_of hr (by first | decide | omega) (by rfl) (pa_cons (pv 0) (pa_cons (pv 2) pa_nil))))
        )
       pss_nil)
      (pss_cons (ps_setLc (i := 3) (own := [("turn", 4)]) rfl sc_any.nd rfl rfl rfl (pi_range1 (by rfl) T.m_range (pa_cons (pe_c c_choose hr (by first | decide | omega) (by rfl) (pa_cons (pv 0) (pa_cons pe_int pa_nil))) pa_nil)) (blkOk_by (N := n_any) (sc := fnScope s_any) (by decide +kernel)) (fun _ _ _ _ _ => (pg_name (i := 4) sc_any.nd rfl (.inl rfl))) (fun _ _ _ _ _ => pts_nil) (fun _ _ _ _ _ => (pe_c c_any hr (by first | decide | omega) (by rfl) (pa_cons (pv 0) (pa_cons (pe_op op_sub (pv 1) pe_int) pa_nil)))))
      (pss_one (ps_ret (pe_ifExp (pt_cmpR op_eq (pe_c c_choose hr (by first | decide | omega) (by rfl) (pa_cons (pv 0) (pa_cons pe_int pa_nil))) pe_int (nomark _)) (pv 3) (pe_callTy (tupleK K) (by rfl) T.m_tuple PyProof.Rows.boot_tuple (pa_cons (pv 3) pa_nil))))
      )))), ?_⟩
    unfold tSeq tAsg
    dsimp only
    have neg : ∀ σ H', RD K B (tUn (rU fun i => V.int (-i)) (tC (V.int 2))) (.int (-2)) σ H' := fun σ H' _ Q q => ⟨2, rfl, q _ _ (Same.refl _) (.int _)⟩
    have pow : ∀ σ H', RD K B (tOp (rI CPow fun i j => V.int (i ^ j.toNat)) (tC (V.int 10)) (tC (V.int 9))) (.int 1000000000) σ H' := fun σ H' _ Q q => ⟨10, 9, rfl, rfl, ⟨by decide, by decide, by decide⟩, q _ _ (Same.refl _) (.int _)⟩
    refine rd_lstA (K := K) (B := B) (ds := dAny) lb ?_ (by decide) fun p xs H1 s1 hp hp1 ha => gn1 ?_
    · repeat (first | exact rd_nil | exact rd_non | exact rd_int | exact rd_bl | exact rd_str | exact neg _ _ | exact pow _ _ | refine rd_cons ?_ fun _ _ _ => ?_ | refine rd_lst ?_ | refine rd_tup ?_)
    have hb1 : BoxAt b H1 := let ⟨o, e, h⟩ := hb; ⟨o, s1 _ _ e, h⟩
    have pb : p ≠ b := box_ne hb hp
    have hB1 : Bx b H H1 := bk_same s1 hb
    have hlen := dpa_len ha
    have pick : ∀ H2 (hB : Bx b H1 H2), tCall (spOne K) [] C8.E0 (tCons (tVar 0) (tCons (tVar 2) tNil)) (List.set (L2.start n_any [V.ref b, V.int (m : Nat)]) 2 (some (V.ref p))) H2 Q := fun H2 hB => by
      refine ⟨_, rfl, _, rfl, b, p, xs, rfl, hB.2, pb, SqL.of (hB.1 _ _ pb hp1), by rw [hlen]; decide, by rw [hlen]; decide, fun v H3 hv hB3 => ?_⟩
      obtain ⟨i, hi⟩ := List.getElem?_of_mem hv
      obtain ⟨d, hd, hdp⟩ := dpa_at ha i v hi
      obtain ⟨f1, f2⟩ := any_fit d (List.mem_of_getElem? hd)
      exact k v d H3 ((hB1.trans hB).trans hB3) (dp_same (bx_wo (hB.trans hB3) hbB) _ _ hdp) (f1.mono (by omega) (w40 m)) f2
    match m, hmn, k, pick with
    | 0, _, k, pick => exact ⟨_, rfl, rfl, _, rfl, iteB (by simp) (iteT (pick H1 (bk_same (Same.refl _) hb1)))⟩
    | m + 1, hmn, k, pick =>
      refine ⟨_, rfl, rfl, _, rfl, iteN (decide_eq_false fun h => by have := V.int.inj h; omega) ?_⟩
      refine ⟨_, rfl, b, 3, rfl, hb1, by omega, by omega, fun d H2 d0 d1 hB2 => ?_⟩
      refine ⟨_, _, rfl, rfl, _, rfl, ?_⟩
      by_cases hd : 0 < d
      · exact iteB (decide_eq_true hd) (pick H2 hB2)
      refine iteN (decide_eq_false hd) ?_
      refine ⟨_, rfl, b, 3, rfl, hB2.2, by omega, by omega, fun d2 H3 e0 e1 hB3 => ⟨d2, rfl, by omega, by omega, fun D hD => ?_⟩⟩
      have hB03 := (hB1.trans hB2).trans hB3
      have l3 : Liv B H3 := live_bx lb hB03
      have DB : D ∉ B := l3.new hD
      have Db : D ≠ b := box_ne hB3.2 hD
      refine lc_keepH (keep_bk hB3.2) (walk_range (lo := 0) (n := d2.toNat)) hD (Nat.lt_of_lt_of_le (show d2.toNat < 3 by omega) (by decide)) (fun j y H => ∃ d, Dp K (wo (D :: B) H) y d ∧ Fit (2 + 2 * m) (wAny m) d) (fun _ _ => trivial)
        (fun _ _ _ _ _ r ⟨d, h, f⟩ => ⟨d, dp_same (bx_wo r (List.mem_cons_of_mem _ hbB)) _ _ h, f⟩) (fun _ _ _ _ _ _ _ ⟨d, h, f⟩ => ⟨d, by rw [wo_upd_in List.mem_cons_self]; exact h, f⟩) (fun j x H4 H5 acc R hj r hDa hy hR => ?_) (fun ys H4 hly hg r hDs => ?_)
      · obtain ⟨rfl, rfl⟩ := hy
        refine ⟨rfl, ?_⟩
        refine ⟨_, rfl, _, rfl, _, _, rfl, rfl, m, by omega, b, D :: B, ?_, r.2, List.mem_cons_of_mem _ hbB, (live_bx l3 r).cons hDa, fun v d H' hB hd hf _ => hR v H' hB ⟨d, hd, hf⟩⟩
        show [V.ref b, V.int (((m + 1 : Nat) : Int) - 1)] = [V.ref b, V.int (m : Nat)]
        rw [show (((m + 1 : Nat) : Int) - 1) = (m : Nat) by omega]
      obtain ⟨ds, hds, hfs⟩ := dpa_ex hg
      have hl2 : ds.length ≤ 2 := by rw [← dpa_len hds, hly]; omega
      have hB04 := hB03.trans r
      have hDw : wo B H4 D = some (.lst ys) := wo_get hDs DB
      have hds' := dpa_same (wo_cons (b := D) (B := B) (H := H4)) _ _ hds
      refine gn1 ?_
      refine ⟨_, rfl, b, 2, rfl, r.2, by omega, by omega, fun d3 H5 g0 g1 hB5 => ⟨rfl, _, rfl, ?_⟩⟩
      have hD5 : wo B H5 D = some (.lst ys) := bx_wo hB5 hbB _ _ hDw
      have hds5 := dpa_same (bx_wo hB5 hbB) _ _ hds'
      have w1 : 2 * (wAny m + 1) ≤ wAny (m + 1) := by show _ ≤ 2 * (wAny m + 1) + 40; omega
      by_cases h3 : d3 = 0
      · refine iteB (by rw [h3]; simp) ?_
        exact ⟨_, rfl, k _ (.list ds) H5 (hB04.trans hB5) (.lst (SqL.of hD5) hds5) ((Fit.lst hfs hl2).mono (by omega) w1) rfl⟩
      · refine iteN (decide_eq_false fun h => h3 (V.int.inj h)) ?_
        refine ⟨_, rfl, D, ys, rfl, .inl ⟨SqL.of (wo_sub _ _ hD5), fun l hl => ?_⟩⟩
        have s6 := sm_new (o := .tup ys) hl
        exact k _ (.tuple ds) _ ((hB04.trans hB5).trans (bk_same s6 hB5.2)) (.tup (SqT.of (wo_get upd_same ((live_bx lb (hB04.trans hB5)).new hl))) (dpa_same (wo_same s6) _ _ hds5)) ((Fit.tup hfs hl2).mono (by omega) w1) rfl
theorem ok_any (T : BT mg) (c_choose : Cal P w K mg base 1 "_law_choose" spChoose []) (c_one_of : Cal P w K mg base 2 "_law_one_of" (spOne K) []) {f : Addr} {fd : FuncData} (F : Def K mg "_law_any" s_any f fd) (b : Binds K fd ["box", "deep"] []) : ∀ n, Cal P w K mg base (3 + n) "_law_any" (spAny K n) []
  | 0 => ok_any0 F b
  | n + 1 => ok_any1 T c_choose c_one_of (ok_any T c_choose c_one_of F b n) F b
end
end Toy
set_option maxHeartbeats 2000000
namespace Toy
open PySem L2 C8 SX LX
local macro_rules | `(tactic| walk_at "c") => `(tactic| refine And.intro (by first | (show (0 : Int) < _; omega) | exact Or.inr ⟨by decide, by decide⟩ | exact Or.inl ⟨by decide, by decide⟩ | (exact ⟨by omega, by omega⟩)) ?_)
local macro_rules | `(tactic| walk_at "s1") => `(tactic| first | refine ⟨_, rfl, ?_⟩ | refine ⟨_, _, rfl, rfl, ?_⟩ | refine .inl ⟨_, rfl, ?_⟩ | walk_at "c")
local macro_rules | `(tactic| walk_at "ix") => `(tactic| refine ⟨_, _, _, _, rfl, rfl, SqL.of (by first | assumption | exact upd_same), rfl, ?_⟩)
local macro_rules | `(tactic| walk_at "s") => `(tactic| repeat (walk_at "s1"))
theorem call_isVK {X : Cx} (K : PySem.W.Frag) (h : X.K = K := by rfl) : CallR X (.builtin "isinstance") (rIsV K) := by subst h; exact call_isV
structure KL (K : PySem.W.Frag) (cs : List Addr) (R : Addr) : Prop where
  kind : ∀ i j, i < 22 → j < 22 → PySem.W.kitOne K (.ref (cs.getD i 0)) (.ref (cs.getD j 0)) = some (decide (i = j))
  row : ∀ i, i < 22 → PySem.W.kitOne K (.ref (cs.getD i 0)) (.ref R) = some (decide (i < 20))
  key : ∀ i, i < 22 → PySem.W.kitOne K (.ref (cs.getD i 0)) (.type "KeyError") = some (decide (20 ≤ i))
  val : ∀ i, i < 22 → PySem.W.kitOne K (.ref (cs.getD i 0)) (.type "ValueError") = some (decide (i < 20))
  exc : ∀ i, i < 22 → ExcC K (cs.getD i 0)
  wf : ∀ i, i < 10 → XfC K (cs.getD i 0) ∧ PySem.W.findIn K (.ref (cs.getD i 0)) "word" = some none
  af : ∀ i, 10 ≤ i → i < 13 → XfC K (cs.getD i 0) ∧ PySem.W.findIn K (.ref (cs.getD i 0)) "at" = some none
  nf : ∀ i, i = 13 ∨ i = 14 ∨ i = 20 → XfC K (cs.getD i 0) ∧ PySem.W.findIn K (.ref (cs.getD i 0)) "name" = some none
  mf : XfC K (cs.getD 21 0) ∧ PySem.W.findIn K (.ref (cs.getD 21 0)) "mark" = some none
section
variable {P : Program} {w : World} {K : PySem.W.Frag} {mg : Str → Option Value} {base : Heap} {C_InvalidReader C_InvalidChange C_InvalidHouse C_InvalidCondition C_InvalidSaying C_InvalidSight C_InvalidCount C_InvalidSum C_InvalidRules C_InvalidBook C_InvalidTerm C_InvalidText C_Refused C_Bound C_NoRow C_InvalidRow C_InvalidLot C_InvalidWord C_InvalidCommand C_Mismatch C_NoName C_NoMark R : Addr}
abbrev s_kinds : Stmt := top 32
abbrev n_kinds : List Str := ["one", "found"]
theorem sc_kinds : FnScope n_kinds ["one"] (fnScope s_kinds) := fnScope_by (by decide +kernel)
def kd (i : Nat) : List V := (List.range 22).map fun j => .bl (decide (i = j))
def spKinds (K : PySem.W.Frag) (cs : List Addr) : Sp := fun vs H Q _ => ∃ (a : Addr) (i : Nat), vs = [.ref a] ∧ i < 22 ∧ ExD H a (cs.getD i 0) ∧ ∀ (p : Addr) (H' : Hp), Same H H' → H p = none → H' p = some (.lst (kd i)) → Q (.ref p) H'
theorem ok_kinds (T : BT mg) (kl : KL K [C_InvalidReader, C_InvalidChange, C_InvalidHouse, C_InvalidCondition, C_InvalidSaying, C_InvalidSight, C_InvalidCount, C_InvalidSum, C_InvalidRules, C_InvalidBook, C_InvalidTerm, C_InvalidText, C_Refused, C_Bound, C_NoRow, C_InvalidRow, C_InvalidLot, C_InvalidWord, C_InvalidCommand, C_Mismatch, C_NoName, C_NoMark] R) (x_InvalidReader : XG mg "InvalidReader" C_InvalidReader) (x_InvalidChange : XG mg "InvalidChange" C_InvalidChange) (x_InvalidHouse : XG mg "InvalidHouse" C_InvalidHouse) (x_InvalidCondition : XG mg "InvalidCondition" C_InvalidCondition) (x_InvalidSaying : XG mg "InvalidSaying" C_InvalidSaying) (x_InvalidSight : XG mg "InvalidSight" C_InvalidSight) (x_InvalidCount : XG mg "InvalidCount" C_InvalidCount) (x_InvalidSum : XG mg "InvalidSum" C_InvalidSum) (x_InvalidRules : XG mg "InvalidRules" C_InvalidRules) (x_InvalidBook : XG mg "InvalidBook" C_InvalidBook) (x_InvalidTerm : XG mg "InvalidTerm" C_InvalidTerm) (x_InvalidText : XG mg "InvalidText" C_InvalidText) (x_Refused : XG mg "Refused" C_Refused) (x_Bound : XG mg "Bound" C_Bound) (x_NoRow : XG mg "NoRow" C_NoRow) (x_InvalidRow : XG mg "InvalidRow" C_InvalidRow) (x_InvalidLot : XG mg "InvalidLot" C_InvalidLot) (x_InvalidWord : XG mg "InvalidWord" C_InvalidWord) (x_InvalidCommand : XG mg "InvalidCommand" C_InvalidCommand) (x_Mismatch : XG mg "Mismatch" C_Mismatch) (x_NoName : XG mg "NoName" C_NoName) (x_NoMark : XG mg "NoMark" C_NoMark) {f : Addr} {fd : FuncData} (F : Def K mg "_law_kinds" s_kinds f fd) (b : Binds K fd ["one"] []) : Cal P w K mg base 1 "_law_kinds" (spKinds K [C_InvalidReader, C_InvalidChange, C_InvalidHouse, C_InvalidCondition, C_InvalidSaying, C_InvalidSight, C_InvalidCount, C_InvalidSum, C_InvalidRules, C_InvalidBook, C_InvalidTerm, C_InvalidText, C_Refused, C_Bound, C_NoRow, C_InvalidRow, C_InvalidLot, C_InvalidWord, C_InvalidCommand, C_Mismatch, C_NoName, C_NoMark]) [] := by
  refine cal0 F b .nil sc_kinds (fun vs H Q E h => ?_) (fun cdv A outer s H vs Q E hr h => ?_)
  · obtain ⟨a, i, rfl, _⟩ := h; rfl
  · obtain ⟨a, i, rfl, hi, hx, k⟩ := h
    refine ⟨_, (pss_cons (ps_set (i := 1) sc_kinds.nd rfl (.inl rfl) (pe_lst (pa_cons (pe_callB (call_isVK K) (by rfl) T.m_isinstance PyProof.Rows.boot_isinstance (pa_cons (pv 0) (pa_cons (pe_glob (v := .ref C_InvalidReader) (by rfl) x_InvalidReader.g rfl) pa_nil))) (pa_cons (pe_callB (call_isVK K) (by rfl) T.m_isinstance PyProof.Rows.boot_isinstance (pa_cons (pv 0) (pa_cons (pe_glob (v := .ref C_InvalidChange) (by rfl) x_InvalidChange.g rfl) pa_nil))) (pa_cons (pe_callB (call_isVK K) (by rfl) T.m_isinstance PyProof.Rows.boot_isinstance (pa_cons (pv 0) (pa_cons (pe_glob (v := .ref C_InvalidHouse) (by rfl) x_InvalidHouse.g rfl) pa_nil))) pa_nil)))))
      (pss_cons (ps_set (i := 1) sc_kinds.nd rfl (.inl rfl) (pe_op op_cat (pv 1) (pe_lst (pa_cons (pe_callB (call_isVK K) (by rfl) T.m_isinstance PyProof.Rows.boot_isinstance (pa_cons (pv 0) (pa_cons (pe_glob (v := .ref C_InvalidCondition) (by rfl) x_InvalidCondition.g rfl) pa_nil))) (pa_cons (pe_callB (call_isVK K) (by rfl) T.m_isinstance PyProof.Rows.boot_isinstance (pa_cons (pv 0) (pa_cons (pe_glob (v := .ref C_InvalidSaying) (by rfl) x_InvalidSaying.g rfl) pa_nil))) (pa_cons (pe_callB (call_isVK K) (by rfl) T.m_isinstance PyProof.Rows.boot_isinstance (pa_cons (pv 0) (pa_cons (pe_glob (v := .ref C_InvalidSight) (by rfl) x_InvalidSight.g rfl) pa_nil))) pa_nil))))))
      (pss_cons (ps_set (i := 1) sc_kinds.nd rfl (.inl rfl) (pe_op op_cat (pv 1) (pe_lst (pa_cons (pe_callB (call_isVK K) (by rfl) T.m_isinstance PyProof.Rows.boot_isinstance (pa_cons (pv 0) (pa_cons (pe_glob (v := .ref C_InvalidCount) (by rfl) x_InvalidCount.g rfl) pa_nil))) (pa_cons (pe_callB (call_isVK K) (by rfl) T.m_isinstance PyProof.Rows.boot_isinstance (pa_cons (pv 0) (pa_cons (pe_glob (v := .ref C_InvalidSum) (by rfl) x_InvalidSum.g rfl) pa_nil))) (pa_cons (pe_callB (call_isVK K) (by rfl) T.m_isinstance PyProof.Rows.boot_isinstance (pa_cons (pv 0) (pa_cons (pe_glob (v := .ref C_InvalidRules) (by rfl) x_InvalidRules.g rfl) pa_nil))) pa_nil))))))
      (pss_cons (ps_set (i := 1) sc_kinds.nd rfl (.inl rfl) (pe_op op_cat (pv 1) (pe_lst (pa_cons (pe_callB (call_isVK K) (by rfl) T.m_isinstance PyProof.Rows.boot_isinstance (pa_cons (pv 0) (pa_cons (pe_glob (v := .ref C_InvalidBook) (by rfl) x_InvalidBook.g rfl) pa_nil))) (pa_cons (pe_callB (call_isVK K) (by rfl) T.m_isinstance PyProof.Rows.boot_isinstance (pa_cons (pv 0) (pa_cons (pe_glob (v := .ref C_InvalidTerm) (by rfl) x_InvalidTerm.g rfl) pa_nil))) (pa_cons (pe_callB (call_isVK K) (by rfl) T.m_isinstance PyProof.Rows.boot_isinstance (pa_cons (pv 0) (pa_cons (pe_glob (v := .ref C_InvalidText) (by rfl) x_InvalidText.g rfl) pa_nil))) pa_nil))))))
      (pss_cons (ps_set (i := 1) sc_kinds.nd rfl (.inl rfl) (pe_op op_cat (pv 1) (pe_lst (pa_cons (pe_callB (call_isVK K) (by rfl) T.m_isinstance PyProof.Rows.boot_isinstance (pa_cons (pv 0) (pa_cons (pe_glob (v := .ref C_Refused) (by rfl) x_Refused.g rfl) pa_nil))) (pa_cons (pe_callB (call_isVK K) (by rfl) T.m_isinstance PyProof.Rows.boot_isinstance (pa_cons (pv 0) (pa_cons (pe_glob (v := .ref C_Bound) (by rfl) x_Bound.g rfl) pa_nil))) (pa_cons (pe_callB (call_isVK K) (by rfl) T.m_isinstance PyProof.Rows.boot_isinstance (pa_cons (pv 0) (pa_cons (pe_glob (v := .ref C_NoRow) (by rfl) x_NoRow.g rfl) pa_nil))) pa_nil))))))
      (pss_cons (ps_set (i := 1) sc_kinds.nd rfl (.inl rfl) (pe_op op_cat (pv 1) (pe_lst (pa_cons (pe_callB (call_isVK K) (by rfl) T.m_isinstance PyProof.Rows.boot_isinstance (pa_cons (pv 0) (pa_cons (pe_glob (v := .ref C_InvalidRow) (by rfl) x_InvalidRow.g rfl) pa_nil))) (pa_cons (pe_callB (call_isVK K) (by rfl) T.m_isinstance PyProof.Rows.boot_isinstance (pa_cons (pv 0) (pa_cons (pe_glob (v := .ref C_InvalidLot) (by rfl) x_InvalidLot.g rfl) pa_nil))) (pa_cons (pe_callB (call_isVK K) (by rfl) T.m_isinstance PyProof.Rows.boot_isinstance (pa_cons (pv 0) (pa_cons (pe_glob (v := .ref C_InvalidWord) (by rfl) x_InvalidWord.g rfl) pa_nil))) pa_nil))))))
      (pss_cons (ps_set (i := 1) sc_kinds.nd rfl (.inl rfl) (pe_op op_cat (pv 1) (pe_lst (pa_cons (pe_callB (call_isVK K) (by rfl) T.m_isinstance PyProof.Rows.boot_isinstance (pa_cons (pv 0) (pa_cons (pe_glob (v := .ref C_InvalidCommand) (by rfl) x_InvalidCommand.g rfl) pa_nil))) (pa_cons (pe_callB (call_isVK K) (by rfl) T.m_isinstance PyProof.Rows.boot_isinstance (pa_cons (pv 0) (pa_cons (pe_glob (v := .ref C_Mismatch) (by rfl) x_Mismatch.g rfl) pa_nil))) (pa_cons (pe_callB (call_isVK K) (by rfl) T.m_isinstance PyProof.Rows.boot_isinstance (pa_cons (pv 0) (pa_cons (pe_glob (v := .ref C_NoName) (by rfl) x_NoName.g rfl) pa_nil))) pa_nil))))))
      (pss_one (ps_ret (pe_op op_cat (pv 1) (pe_lst (pa_cons (pe_callB (call_isVK K) (by rfl) T.m_isinstance PyProof.Rows.boot_isinstance (pa_cons (pv 0) (pa_cons (pe_glob (v := .ref C_NoMark) (by rfl) x_NoMark.g rfl) pa_nil))) pa_nil))))
      )))))))), ?_⟩
    refine ⟨_, rfl, _, a, _, _, _, kl.exc i hi, rfl, (fun u hu => hu), (show PySem.W.kitOne K (.ref (([C_InvalidReader, C_InvalidChange, C_InvalidHouse, C_InvalidCondition, C_InvalidSaying, C_InvalidSight, C_InvalidCount, C_InvalidSum, C_InvalidRules, C_InvalidBook, C_InvalidTerm, C_InvalidText, C_Refused, C_Bound, C_NoRow, C_InvalidRow, C_InvalidLot, C_InvalidWord, C_InvalidCommand, C_Mismatch, C_NoName, C_NoMark] : List Addr).getD i 0)) (.ref C_InvalidReader) = some (decide (i = 0)) from kl.kind i 0 hi (by decide)), hx, _, rfl, _, a, _, _, _, kl.exc i hi, rfl, (fun u hu => hu), (show PySem.W.kitOne K (.ref (([C_InvalidReader, C_InvalidChange, C_InvalidHouse, C_InvalidCondition, C_InvalidSaying, C_InvalidSight, C_InvalidCount, C_InvalidSum, C_InvalidRules, C_InvalidBook, C_InvalidTerm, C_InvalidText, C_Refused, C_Bound, C_NoRow, C_InvalidRow, C_InvalidLot, C_InvalidWord, C_InvalidCommand, C_Mismatch, C_NoName, C_NoMark] : List Addr).getD i 0)) (.ref C_InvalidChange) = some (decide (i = 1)) from kl.kind i 1 hi (by decide)), hx, _, rfl, _, a, _, _, _, kl.exc i hi, rfl, (fun u hu => hu), (show PySem.W.kitOne K (.ref (([C_InvalidReader, C_InvalidChange, C_InvalidHouse, C_InvalidCondition, C_InvalidSaying, C_InvalidSight, C_InvalidCount, C_InvalidSum, C_InvalidRules, C_InvalidBook, C_InvalidTerm, C_InvalidText, C_Refused, C_Bound, C_NoRow, C_InvalidRow, C_InvalidLot, C_InvalidWord, C_InvalidCommand, C_Mismatch, C_NoName, C_NoMark] : List Addr).getD i 0)) (.ref C_InvalidHouse) = some (decide (i = 2)) from kl.kind i 2 hi (by decide)), hx, by show 3 ≤ sizeLine; decide, fun p0 hp0 => ?_⟩
    have s0 : Same H (upd H p0 (.lst [V.bl (decide (i = 0)), V.bl (decide (i = 1)), V.bl (decide (i = 2))])) := sm_new hp0
    have h0 : (upd H p0 (.lst [V.bl (decide (i = 0)), V.bl (decide (i = 1)), V.bl (decide (i = 2))])) p0 = some (.lst [V.bl (decide (i = 0)), V.bl (decide (i = 1)), V.bl (decide (i = 2))]) := upd_same
    generalize upd H p0 (.lst [V.bl (decide (i = 0)), V.bl (decide (i = 1)), V.bl (decide (i = 2))]) = H0 at s0 h0 ⊢
    have hx := hx.same s0
    refine ⟨_, rfl, _, rfl, _, a, _, _, _, kl.exc i hi, rfl, (fun u hu => hu), (show PySem.W.kitOne K (.ref (([C_InvalidReader, C_InvalidChange, C_InvalidHouse, C_InvalidCondition, C_InvalidSaying, C_InvalidSight, C_InvalidCount, C_InvalidSum, C_InvalidRules, C_InvalidBook, C_InvalidTerm, C_InvalidText, C_Refused, C_Bound, C_NoRow, C_InvalidRow, C_InvalidLot, C_InvalidWord, C_InvalidCommand, C_Mismatch, C_NoName, C_NoMark] : List Addr).getD i 0)) (.ref C_InvalidCondition) = some (decide (i = 3)) from kl.kind i 3 hi (by decide)), hx, _, rfl, _, a, _, _, _, kl.exc i hi, rfl, (fun u hu => hu), (show PySem.W.kitOne K (.ref (([C_InvalidReader, C_InvalidChange, C_InvalidHouse, C_InvalidCondition, C_InvalidSaying, C_InvalidSight, C_InvalidCount, C_InvalidSum, C_InvalidRules, C_InvalidBook, C_InvalidTerm, C_InvalidText, C_Refused, C_Bound, C_NoRow, C_InvalidRow, C_InvalidLot, C_InvalidWord, C_InvalidCommand, C_Mismatch, C_NoName, C_NoMark] : List Addr).getD i 0)) (.ref C_InvalidSaying) = some (decide (i = 4)) from kl.kind i 4 hi (by decide)), hx, _, rfl, _, a, _, _, _, kl.exc i hi, rfl, (fun u hu => hu), (show PySem.W.kitOne K (.ref (([C_InvalidReader, C_InvalidChange, C_InvalidHouse, C_InvalidCondition, C_InvalidSaying, C_InvalidSight, C_InvalidCount, C_InvalidSum, C_InvalidRules, C_InvalidBook, C_InvalidTerm, C_InvalidText, C_Refused, C_Bound, C_NoRow, C_InvalidRow, C_InvalidLot, C_InvalidWord, C_InvalidCommand, C_Mismatch, C_NoName, C_NoMark] : List Addr).getD i 0)) (.ref C_InvalidSight) = some (decide (i = 5)) from kl.kind i 5 hi (by decide)), hx, by show 3 ≤ sizeLine; decide, fun q1 hq1 => ⟨p0, q1, _, _, rfl, rfl, sm_new hq1 _ _ h0, upd_same, by show 6 ≤ sizeLine; decide, fun p1 hp1 => ?_⟩⟩
    have s1 : Same H (upd (upd H0 q1 (.lst [V.bl (decide (i = 3)), V.bl (decide (i = 4)), V.bl (decide (i = 5))])) p1 (.lst ([V.bl (decide (i = 0)), V.bl (decide (i = 1)), V.bl (decide (i = 2))] ++ [V.bl (decide (i = 3)), V.bl (decide (i = 4)), V.bl (decide (i = 5))]))) := (s0.trans (sm_new hq1)).trans (sm_new hp1)
    have h1 : (upd (upd H0 q1 (.lst [V.bl (decide (i = 3)), V.bl (decide (i = 4)), V.bl (decide (i = 5))])) p1 (.lst ([V.bl (decide (i = 0)), V.bl (decide (i = 1)), V.bl (decide (i = 2))] ++ [V.bl (decide (i = 3)), V.bl (decide (i = 4)), V.bl (decide (i = 5))]))) p1 = some (.lst [V.bl (decide (i = 0)), V.bl (decide (i = 1)), V.bl (decide (i = 2)), V.bl (decide (i = 3)), V.bl (decide (i = 4)), V.bl (decide (i = 5))]) := upd_same
    have n1 : H p1 = none := same_new (s0.trans (sm_new hq1)) hp1
    have hx := hx.same ((sm_new hq1).trans (sm_new (o := .lst ([V.bl (decide (i = 0)), V.bl (decide (i = 1)), V.bl (decide (i = 2))] ++ [V.bl (decide (i = 3)), V.bl (decide (i = 4)), V.bl (decide (i = 5))])) hp1))
    generalize upd (upd H0 q1 (.lst [V.bl (decide (i = 3)), V.bl (decide (i = 4)), V.bl (decide (i = 5))])) p1 (.lst ([V.bl (decide (i = 0)), V.bl (decide (i = 1)), V.bl (decide (i = 2))] ++ [V.bl (decide (i = 3)), V.bl (decide (i = 4)), V.bl (decide (i = 5))])) = H1 at s1 h1 hx ⊢
    refine ⟨_, rfl, _, rfl, _, a, _, _, _, kl.exc i hi, rfl, (fun u hu => hu), (show PySem.W.kitOne K (.ref (([C_InvalidReader, C_InvalidChange, C_InvalidHouse, C_InvalidCondition, C_InvalidSaying, C_InvalidSight, C_InvalidCount, C_InvalidSum, C_InvalidRules, C_InvalidBook, C_InvalidTerm, C_InvalidText, C_Refused, C_Bound, C_NoRow, C_InvalidRow, C_InvalidLot, C_InvalidWord, C_InvalidCommand, C_Mismatch, C_NoName, C_NoMark] : List Addr).getD i 0)) (.ref C_InvalidCount) = some (decide (i = 6)) from kl.kind i 6 hi (by decide)), hx, _, rfl, _, a, _, _, _, kl.exc i hi, rfl, (fun u hu => hu), (show PySem.W.kitOne K (.ref (([C_InvalidReader, C_InvalidChange, C_InvalidHouse, C_InvalidCondition, C_InvalidSaying, C_InvalidSight, C_InvalidCount, C_InvalidSum, C_InvalidRules, C_InvalidBook, C_InvalidTerm, C_InvalidText, C_Refused, C_Bound, C_NoRow, C_InvalidRow, C_InvalidLot, C_InvalidWord, C_InvalidCommand, C_Mismatch, C_NoName, C_NoMark] : List Addr).getD i 0)) (.ref C_InvalidSum) = some (decide (i = 7)) from kl.kind i 7 hi (by decide)), hx, _, rfl, _, a, _, _, _, kl.exc i hi, rfl, (fun u hu => hu), (show PySem.W.kitOne K (.ref (([C_InvalidReader, C_InvalidChange, C_InvalidHouse, C_InvalidCondition, C_InvalidSaying, C_InvalidSight, C_InvalidCount, C_InvalidSum, C_InvalidRules, C_InvalidBook, C_InvalidTerm, C_InvalidText, C_Refused, C_Bound, C_NoRow, C_InvalidRow, C_InvalidLot, C_InvalidWord, C_InvalidCommand, C_Mismatch, C_NoName, C_NoMark] : List Addr).getD i 0)) (.ref C_InvalidRules) = some (decide (i = 8)) from kl.kind i 8 hi (by decide)), hx, by show 3 ≤ sizeLine; decide, fun q2 hq2 => ⟨p1, q2, _, _, rfl, rfl, sm_new hq2 _ _ h1, upd_same, by show 9 ≤ sizeLine; decide, fun p2 hp2 => ?_⟩⟩
    have s2 : Same H (upd (upd H1 q2 (.lst [V.bl (decide (i = 6)), V.bl (decide (i = 7)), V.bl (decide (i = 8))])) p2 (.lst ([V.bl (decide (i = 0)), V.bl (decide (i = 1)), V.bl (decide (i = 2)), V.bl (decide (i = 3)), V.bl (decide (i = 4)), V.bl (decide (i = 5))] ++ [V.bl (decide (i = 6)), V.bl (decide (i = 7)), V.bl (decide (i = 8))]))) := (s1.trans (sm_new hq2)).trans (sm_new hp2)
    have h2 : (upd (upd H1 q2 (.lst [V.bl (decide (i = 6)), V.bl (decide (i = 7)), V.bl (decide (i = 8))])) p2 (.lst ([V.bl (decide (i = 0)), V.bl (decide (i = 1)), V.bl (decide (i = 2)), V.bl (decide (i = 3)), V.bl (decide (i = 4)), V.bl (decide (i = 5))] ++ [V.bl (decide (i = 6)), V.bl (decide (i = 7)), V.bl (decide (i = 8))]))) p2 = some (.lst [V.bl (decide (i = 0)), V.bl (decide (i = 1)), V.bl (decide (i = 2)), V.bl (decide (i = 3)), V.bl (decide (i = 4)), V.bl (decide (i = 5)), V.bl (decide (i = 6)), V.bl (decide (i = 7)), V.bl (decide (i = 8))]) := upd_same
    have n2 : H p2 = none := same_new (s1.trans (sm_new hq2)) hp2
    have hx := hx.same ((sm_new hq2).trans (sm_new (o := .lst ([V.bl (decide (i = 0)), V.bl (decide (i = 1)), V.bl (decide (i = 2)), V.bl (decide (i = 3)), V.bl (decide (i = 4)), V.bl (decide (i = 5))] ++ [V.bl (decide (i = 6)), V.bl (decide (i = 7)), V.bl (decide (i = 8))])) hp2))
    generalize upd (upd H1 q2 (.lst [V.bl (decide (i = 6)), V.bl (decide (i = 7)), V.bl (decide (i = 8))])) p2 (.lst ([V.bl (decide (i = 0)), V.bl (decide (i = 1)), V.bl (decide (i = 2)), V.bl (decide (i = 3)), V.bl (decide (i = 4)), V.bl (decide (i = 5))] ++ [V.bl (decide (i = 6)), V.bl (decide (i = 7)), V.bl (decide (i = 8))])) = H2 at s2 h2 hx ⊢
    refine ⟨_, rfl, _, rfl, _, a, _, _, _, kl.exc i hi, rfl, (fun u hu => hu), (show PySem.W.kitOne K (.ref (([C_InvalidReader, C_InvalidChange, C_InvalidHouse, C_InvalidCondition, C_InvalidSaying, C_InvalidSight, C_InvalidCount, C_InvalidSum, C_InvalidRules, C_InvalidBook, C_InvalidTerm, C_InvalidText, C_Refused, C_Bound, C_NoRow, C_InvalidRow, C_InvalidLot, C_InvalidWord, C_InvalidCommand, C_Mismatch, C_NoName, C_NoMark] : List Addr).getD i 0)) (.ref C_InvalidBook) = some (decide (i = 9)) from kl.kind i 9 hi (by decide)), hx, _, rfl, _, a, _, _, _, kl.exc i hi, rfl, (fun u hu => hu), (show PySem.W.kitOne K (.ref (([C_InvalidReader, C_InvalidChange, C_InvalidHouse, C_InvalidCondition, C_InvalidSaying, C_InvalidSight, C_InvalidCount, C_InvalidSum, C_InvalidRules, C_InvalidBook, C_InvalidTerm, C_InvalidText, C_Refused, C_Bound, C_NoRow, C_InvalidRow, C_InvalidLot, C_InvalidWord, C_InvalidCommand, C_Mismatch, C_NoName, C_NoMark] : List Addr).getD i 0)) (.ref C_InvalidTerm) = some (decide (i = 10)) from kl.kind i 10 hi (by decide)), hx, _, rfl, _, a, _, _, _, kl.exc i hi, rfl, (fun u hu => hu), (show PySem.W.kitOne K (.ref (([C_InvalidReader, C_InvalidChange, C_InvalidHouse, C_InvalidCondition, C_InvalidSaying, C_InvalidSight, C_InvalidCount, C_InvalidSum, C_InvalidRules, C_InvalidBook, C_InvalidTerm, C_InvalidText, C_Refused, C_Bound, C_NoRow, C_InvalidRow, C_InvalidLot, C_InvalidWord, C_InvalidCommand, C_Mismatch, C_NoName, C_NoMark] : List Addr).getD i 0)) (.ref C_InvalidText) = some (decide (i = 11)) from kl.kind i 11 hi (by decide)), hx, by show 3 ≤ sizeLine; decide, fun q3 hq3 => ⟨p2, q3, _, _, rfl, rfl, sm_new hq3 _ _ h2, upd_same, by show 12 ≤ sizeLine; decide, fun p3 hp3 => ?_⟩⟩
    have s3 : Same H (upd (upd H2 q3 (.lst [V.bl (decide (i = 9)), V.bl (decide (i = 10)), V.bl (decide (i = 11))])) p3 (.lst ([V.bl (decide (i = 0)), V.bl (decide (i = 1)), V.bl (decide (i = 2)), V.bl (decide (i = 3)), V.bl (decide (i = 4)), V.bl (decide (i = 5)), V.bl (decide (i = 6)), V.bl (decide (i = 7)), V.bl (decide (i = 8))] ++ [V.bl (decide (i = 9)), V.bl (decide (i = 10)), V.bl (decide (i = 11))]))) := (s2.trans (sm_new hq3)).trans (sm_new hp3)
    have h3 : (upd (upd H2 q3 (.lst [V.bl (decide (i = 9)), V.bl (decide (i = 10)), V.bl (decide (i = 11))])) p3 (.lst ([V.bl (decide (i = 0)), V.bl (decide (i = 1)), V.bl (decide (i = 2)), V.bl (decide (i = 3)), V.bl (decide (i = 4)), V.bl (decide (i = 5)), V.bl (decide (i = 6)), V.bl (decide (i = 7)), V.bl (decide (i = 8))] ++ [V.bl (decide (i = 9)), V.bl (decide (i = 10)), V.bl (decide (i = 11))]))) p3 = some (.lst [V.bl (decide (i = 0)), V.bl (decide (i = 1)), V.bl (decide (i = 2)), V.bl (decide (i = 3)), V.bl (decide (i = 4)), V.bl (decide (i = 5)), V.bl (decide (i = 6)), V.bl (decide (i = 7)), V.bl (decide (i = 8)), V.bl (decide (i = 9)), V.bl (decide (i = 10)), V.bl (decide (i = 11))]) := upd_same
    have n3 : H p3 = none := same_new (s2.trans (sm_new hq3)) hp3
    have hx := hx.same ((sm_new hq3).trans (sm_new (o := .lst ([V.bl (decide (i = 0)), V.bl (decide (i = 1)), V.bl (decide (i = 2)), V.bl (decide (i = 3)), V.bl (decide (i = 4)), V.bl (decide (i = 5)), V.bl (decide (i = 6)), V.bl (decide (i = 7)), V.bl (decide (i = 8))] ++ [V.bl (decide (i = 9)), V.bl (decide (i = 10)), V.bl (decide (i = 11))])) hp3))
    generalize upd (upd H2 q3 (.lst [V.bl (decide (i = 9)), V.bl (decide (i = 10)), V.bl (decide (i = 11))])) p3 (.lst ([V.bl (decide (i = 0)), V.bl (decide (i = 1)), V.bl (decide (i = 2)), V.bl (decide (i = 3)), V.bl (decide (i = 4)), V.bl (decide (i = 5)), V.bl (decide (i = 6)), V.bl (decide (i = 7)), V.bl (decide (i = 8))] ++ [V.bl (decide (i = 9)), V.bl (decide (i = 10)), V.bl (decide (i = 11))])) = H3 at s3 h3 hx ⊢
    refine ⟨_, rfl, _, rfl, _, a, _, _, _, kl.exc i hi, rfl, (fun u hu => hu), (show PySem.W.kitOne K (.ref (([C_InvalidReader, C_InvalidChange, C_InvalidHouse, C_InvalidCondition, C_InvalidSaying, C_InvalidSight, C_InvalidCount, C_InvalidSum, C_InvalidRules, C_InvalidBook, C_InvalidTerm, C_InvalidText, C_Refused, C_Bound, C_NoRow, C_InvalidRow, C_InvalidLot, C_InvalidWord, C_InvalidCommand, C_Mismatch, C_NoName, C_NoMark] : List Addr).getD i 0)) (.ref C_Refused) = some (decide (i = 12)) from kl.kind i 12 hi (by decide)), hx, _, rfl, _, a, _, _, _, kl.exc i hi, rfl, (fun u hu => hu), (show PySem.W.kitOne K (.ref (([C_InvalidReader, C_InvalidChange, C_InvalidHouse, C_InvalidCondition, C_InvalidSaying, C_InvalidSight, C_InvalidCount, C_InvalidSum, C_InvalidRules, C_InvalidBook, C_InvalidTerm, C_InvalidText, C_Refused, C_Bound, C_NoRow, C_InvalidRow, C_InvalidLot, C_InvalidWord, C_InvalidCommand, C_Mismatch, C_NoName, C_NoMark] : List Addr).getD i 0)) (.ref C_Bound) = some (decide (i = 13)) from kl.kind i 13 hi (by decide)), hx, _, rfl, _, a, _, _, _, kl.exc i hi, rfl, (fun u hu => hu), (show PySem.W.kitOne K (.ref (([C_InvalidReader, C_InvalidChange, C_InvalidHouse, C_InvalidCondition, C_InvalidSaying, C_InvalidSight, C_InvalidCount, C_InvalidSum, C_InvalidRules, C_InvalidBook, C_InvalidTerm, C_InvalidText, C_Refused, C_Bound, C_NoRow, C_InvalidRow, C_InvalidLot, C_InvalidWord, C_InvalidCommand, C_Mismatch, C_NoName, C_NoMark] : List Addr).getD i 0)) (.ref C_NoRow) = some (decide (i = 14)) from kl.kind i 14 hi (by decide)), hx, by show 3 ≤ sizeLine; decide, fun q4 hq4 => ⟨p3, q4, _, _, rfl, rfl, sm_new hq4 _ _ h3, upd_same, by show 15 ≤ sizeLine; decide, fun p4 hp4 => ?_⟩⟩
    have s4 : Same H (upd (upd H3 q4 (.lst [V.bl (decide (i = 12)), V.bl (decide (i = 13)), V.bl (decide (i = 14))])) p4 (.lst ([V.bl (decide (i = 0)), V.bl (decide (i = 1)), V.bl (decide (i = 2)), V.bl (decide (i = 3)), V.bl (decide (i = 4)), V.bl (decide (i = 5)), V.bl (decide (i = 6)), V.bl (decide (i = 7)), V.bl (decide (i = 8)), V.bl (decide (i = 9)), V.bl (decide (i = 10)), V.bl (decide (i = 11))] ++ [V.bl (decide (i = 12)), V.bl (decide (i = 13)), V.bl (decide (i = 14))]))) := (s3.trans (sm_new hq4)).trans (sm_new hp4)
    have h4 : (upd (upd H3 q4 (.lst [V.bl (decide (i = 12)), V.bl (decide (i = 13)), V.bl (decide (i = 14))])) p4 (.lst ([V.bl (decide (i = 0)), V.bl (decide (i = 1)), V.bl (decide (i = 2)), V.bl (decide (i = 3)), V.bl (decide (i = 4)), V.bl (decide (i = 5)), V.bl (decide (i = 6)), V.bl (decide (i = 7)), V.bl (decide (i = 8)), V.bl (decide (i = 9)), V.bl (decide (i = 10)), V.bl (decide (i = 11))] ++ [V.bl (decide (i = 12)), V.bl (decide (i = 13)), V.bl (decide (i = 14))]))) p4 = some (.lst [V.bl (decide (i = 0)), V.bl (decide (i = 1)), V.bl (decide (i = 2)), V.bl (decide (i = 3)), V.bl (decide (i = 4)), V.bl (decide (i = 5)), V.bl (decide (i = 6)), V.bl (decide (i = 7)), V.bl (decide (i = 8)), V.bl (decide (i = 9)), V.bl (decide (i = 10)), V.bl (decide (i = 11)), V.bl (decide (i = 12)), V.bl (decide (i = 13)), V.bl (decide (i = 14))]) := upd_same
    have n4 : H p4 = none := same_new (s3.trans (sm_new hq4)) hp4
    have hx := hx.same ((sm_new hq4).trans (sm_new (o := .lst ([V.bl (decide (i = 0)), V.bl (decide (i = 1)), V.bl (decide (i = 2)), V.bl (decide (i = 3)), V.bl (decide (i = 4)), V.bl (decide (i = 5)), V.bl (decide (i = 6)), V.bl (decide (i = 7)), V.bl (decide (i = 8)), V.bl (decide (i = 9)), V.bl (decide (i = 10)), V.bl (decide (i = 11))] ++ [V.bl (decide (i = 12)), V.bl (decide (i = 13)), V.bl (decide (i = 14))])) hp4))
    generalize upd (upd H3 q4 (.lst [V.bl (decide (i = 12)), V.bl (decide (i = 13)), V.bl (decide (i = 14))])) p4 (.lst ([V.bl (decide (i = 0)), V.bl (decide (i = 1)), V.bl (decide (i = 2)), V.bl (decide (i = 3)), V.bl (decide (i = 4)), V.bl (decide (i = 5)), V.bl (decide (i = 6)), V.bl (decide (i = 7)), V.bl (decide (i = 8)), V.bl (decide (i = 9)), V.bl (decide (i = 10)), V.bl (decide (i = 11))] ++ [V.bl (decide (i = 12)), V.bl (decide (i = 13)), V.bl (decide (i = 14))])) = H4 at s4 h4 hx ⊢
    refine ⟨_, rfl, _, rfl, _, a, _, _, _, kl.exc i hi, rfl, (fun u hu => hu), (show PySem.W.kitOne K (.ref (([C_InvalidReader, C_InvalidChange, C_InvalidHouse, C_InvalidCondition, C_InvalidSaying, C_InvalidSight, C_InvalidCount, C_InvalidSum, C_InvalidRules, C_InvalidBook, C_InvalidTerm, C_InvalidText, C_Refused, C_Bound, C_NoRow, C_InvalidRow, C_InvalidLot, C_InvalidWord, C_InvalidCommand, C_Mismatch, C_NoName, C_NoMark] : List Addr).getD i 0)) (.ref C_InvalidRow) = some (decide (i = 15)) from kl.kind i 15 hi (by decide)), hx, _, rfl, _, a, _, _, _, kl.exc i hi, rfl, (fun u hu => hu), (show PySem.W.kitOne K (.ref (([C_InvalidReader, C_InvalidChange, C_InvalidHouse, C_InvalidCondition, C_InvalidSaying, C_InvalidSight, C_InvalidCount, C_InvalidSum, C_InvalidRules, C_InvalidBook, C_InvalidTerm, C_InvalidText, C_Refused, C_Bound, C_NoRow, C_InvalidRow, C_InvalidLot, C_InvalidWord, C_InvalidCommand, C_Mismatch, C_NoName, C_NoMark] : List Addr).getD i 0)) (.ref C_InvalidLot) = some (decide (i = 16)) from kl.kind i 16 hi (by decide)), hx, _, rfl, _, a, _, _, _, kl.exc i hi, rfl, (fun u hu => hu), (show PySem.W.kitOne K (.ref (([C_InvalidReader, C_InvalidChange, C_InvalidHouse, C_InvalidCondition, C_InvalidSaying, C_InvalidSight, C_InvalidCount, C_InvalidSum, C_InvalidRules, C_InvalidBook, C_InvalidTerm, C_InvalidText, C_Refused, C_Bound, C_NoRow, C_InvalidRow, C_InvalidLot, C_InvalidWord, C_InvalidCommand, C_Mismatch, C_NoName, C_NoMark] : List Addr).getD i 0)) (.ref C_InvalidWord) = some (decide (i = 17)) from kl.kind i 17 hi (by decide)), hx, by show 3 ≤ sizeLine; decide, fun q5 hq5 => ⟨p4, q5, _, _, rfl, rfl, sm_new hq5 _ _ h4, upd_same, by show 18 ≤ sizeLine; decide, fun p5 hp5 => ?_⟩⟩
    have s5 : Same H (upd (upd H4 q5 (.lst [V.bl (decide (i = 15)), V.bl (decide (i = 16)), V.bl (decide (i = 17))])) p5 (.lst ([V.bl (decide (i = 0)), V.bl (decide (i = 1)), V.bl (decide (i = 2)), V.bl (decide (i = 3)), V.bl (decide (i = 4)), V.bl (decide (i = 5)), V.bl (decide (i = 6)), V.bl (decide (i = 7)), V.bl (decide (i = 8)), V.bl (decide (i = 9)), V.bl (decide (i = 10)), V.bl (decide (i = 11)), V.bl (decide (i = 12)), V.bl (decide (i = 13)), V.bl (decide (i = 14))] ++ [V.bl (decide (i = 15)), V.bl (decide (i = 16)), V.bl (decide (i = 17))]))) := (s4.trans (sm_new hq5)).trans (sm_new hp5)
    have h5 : (upd (upd H4 q5 (.lst [V.bl (decide (i = 15)), V.bl (decide (i = 16)), V.bl (decide (i = 17))])) p5 (.lst ([V.bl (decide (i = 0)), V.bl (decide (i = 1)), V.bl (decide (i = 2)), V.bl (decide (i = 3)), V.bl (decide (i = 4)), V.bl (decide (i = 5)), V.bl (decide (i = 6)), V.bl (decide (i = 7)), V.bl (decide (i = 8)), V.bl (decide (i = 9)), V.bl (decide (i = 10)), V.bl (decide (i = 11)), V.bl (decide (i = 12)), V.bl (decide (i = 13)), V.bl (decide (i = 14))] ++ [V.bl (decide (i = 15)), V.bl (decide (i = 16)), V.bl (decide (i = 17))]))) p5 = some (.lst [V.bl (decide (i = 0)), V.bl (decide (i = 1)), V.bl (decide (i = 2)), V.bl (decide (i = 3)), V.bl (decide (i = 4)), V.bl (decide (i = 5)), V.bl (decide (i = 6)), V.bl (decide (i = 7)), V.bl (decide (i = 8)), V.bl (decide (i = 9)), V.bl (decide (i = 10)), V.bl (decide (i = 11)), V.bl (decide (i = 12)), V.bl (decide (i = 13)), V.bl (decide (i = 14)), V.bl (decide (i = 15)), V.bl (decide (i = 16)), V.bl (decide (i = 17))]) := upd_same
    have n5 : H p5 = none := same_new (s4.trans (sm_new hq5)) hp5
    have hx := hx.same ((sm_new hq5).trans (sm_new (o := .lst ([V.bl (decide (i = 0)), V.bl (decide (i = 1)), V.bl (decide (i = 2)), V.bl (decide (i = 3)), V.bl (decide (i = 4)), V.bl (decide (i = 5)), V.bl (decide (i = 6)), V.bl (decide (i = 7)), V.bl (decide (i = 8)), V.bl (decide (i = 9)), V.bl (decide (i = 10)), V.bl (decide (i = 11)), V.bl (decide (i = 12)), V.bl (decide (i = 13)), V.bl (decide (i = 14))] ++ [V.bl (decide (i = 15)), V.bl (decide (i = 16)), V.bl (decide (i = 17))])) hp5))
    generalize upd (upd H4 q5 (.lst [V.bl (decide (i = 15)), V.bl (decide (i = 16)), V.bl (decide (i = 17))])) p5 (.lst ([V.bl (decide (i = 0)), V.bl (decide (i = 1)), V.bl (decide (i = 2)), V.bl (decide (i = 3)), V.bl (decide (i = 4)), V.bl (decide (i = 5)), V.bl (decide (i = 6)), V.bl (decide (i = 7)), V.bl (decide (i = 8)), V.bl (decide (i = 9)), V.bl (decide (i = 10)), V.bl (decide (i = 11)), V.bl (decide (i = 12)), V.bl (decide (i = 13)), V.bl (decide (i = 14))] ++ [V.bl (decide (i = 15)), V.bl (decide (i = 16)), V.bl (decide (i = 17))])) = H5 at s5 h5 hx ⊢
    refine ⟨_, rfl, _, rfl, _, a, _, _, _, kl.exc i hi, rfl, (fun u hu => hu), (show PySem.W.kitOne K (.ref (([C_InvalidReader, C_InvalidChange, C_InvalidHouse, C_InvalidCondition, C_InvalidSaying, C_InvalidSight, C_InvalidCount, C_InvalidSum, C_InvalidRules, C_InvalidBook, C_InvalidTerm, C_InvalidText, C_Refused, C_Bound, C_NoRow, C_InvalidRow, C_InvalidLot, C_InvalidWord, C_InvalidCommand, C_Mismatch, C_NoName, C_NoMark] : List Addr).getD i 0)) (.ref C_InvalidCommand) = some (decide (i = 18)) from kl.kind i 18 hi (by decide)), hx, _, rfl, _, a, _, _, _, kl.exc i hi, rfl, (fun u hu => hu), (show PySem.W.kitOne K (.ref (([C_InvalidReader, C_InvalidChange, C_InvalidHouse, C_InvalidCondition, C_InvalidSaying, C_InvalidSight, C_InvalidCount, C_InvalidSum, C_InvalidRules, C_InvalidBook, C_InvalidTerm, C_InvalidText, C_Refused, C_Bound, C_NoRow, C_InvalidRow, C_InvalidLot, C_InvalidWord, C_InvalidCommand, C_Mismatch, C_NoName, C_NoMark] : List Addr).getD i 0)) (.ref C_Mismatch) = some (decide (i = 19)) from kl.kind i 19 hi (by decide)), hx, _, rfl, _, a, _, _, _, kl.exc i hi, rfl, (fun u hu => hu), (show PySem.W.kitOne K (.ref (([C_InvalidReader, C_InvalidChange, C_InvalidHouse, C_InvalidCondition, C_InvalidSaying, C_InvalidSight, C_InvalidCount, C_InvalidSum, C_InvalidRules, C_InvalidBook, C_InvalidTerm, C_InvalidText, C_Refused, C_Bound, C_NoRow, C_InvalidRow, C_InvalidLot, C_InvalidWord, C_InvalidCommand, C_Mismatch, C_NoName, C_NoMark] : List Addr).getD i 0)) (.ref C_NoName) = some (decide (i = 20)) from kl.kind i 20 hi (by decide)), hx, by show 3 ≤ sizeLine; decide, fun q6 hq6 => ⟨p5, q6, _, _, rfl, rfl, sm_new hq6 _ _ h5, upd_same, by show 21 ≤ sizeLine; decide, fun p6 hp6 => ?_⟩⟩
    have s6 : Same H (upd (upd H5 q6 (.lst [V.bl (decide (i = 18)), V.bl (decide (i = 19)), V.bl (decide (i = 20))])) p6 (.lst ([V.bl (decide (i = 0)), V.bl (decide (i = 1)), V.bl (decide (i = 2)), V.bl (decide (i = 3)), V.bl (decide (i = 4)), V.bl (decide (i = 5)), V.bl (decide (i = 6)), V.bl (decide (i = 7)), V.bl (decide (i = 8)), V.bl (decide (i = 9)), V.bl (decide (i = 10)), V.bl (decide (i = 11)), V.bl (decide (i = 12)), V.bl (decide (i = 13)), V.bl (decide (i = 14)), V.bl (decide (i = 15)), V.bl (decide (i = 16)), V.bl (decide (i = 17))] ++ [V.bl (decide (i = 18)), V.bl (decide (i = 19)), V.bl (decide (i = 20))]))) := (s5.trans (sm_new hq6)).trans (sm_new hp6)
    have h6 : (upd (upd H5 q6 (.lst [V.bl (decide (i = 18)), V.bl (decide (i = 19)), V.bl (decide (i = 20))])) p6 (.lst ([V.bl (decide (i = 0)), V.bl (decide (i = 1)), V.bl (decide (i = 2)), V.bl (decide (i = 3)), V.bl (decide (i = 4)), V.bl (decide (i = 5)), V.bl (decide (i = 6)), V.bl (decide (i = 7)), V.bl (decide (i = 8)), V.bl (decide (i = 9)), V.bl (decide (i = 10)), V.bl (decide (i = 11)), V.bl (decide (i = 12)), V.bl (decide (i = 13)), V.bl (decide (i = 14)), V.bl (decide (i = 15)), V.bl (decide (i = 16)), V.bl (decide (i = 17))] ++ [V.bl (decide (i = 18)), V.bl (decide (i = 19)), V.bl (decide (i = 20))]))) p6 = some (.lst [V.bl (decide (i = 0)), V.bl (decide (i = 1)), V.bl (decide (i = 2)), V.bl (decide (i = 3)), V.bl (decide (i = 4)), V.bl (decide (i = 5)), V.bl (decide (i = 6)), V.bl (decide (i = 7)), V.bl (decide (i = 8)), V.bl (decide (i = 9)), V.bl (decide (i = 10)), V.bl (decide (i = 11)), V.bl (decide (i = 12)), V.bl (decide (i = 13)), V.bl (decide (i = 14)), V.bl (decide (i = 15)), V.bl (decide (i = 16)), V.bl (decide (i = 17)), V.bl (decide (i = 18)), V.bl (decide (i = 19)), V.bl (decide (i = 20))]) := upd_same
    have n6 : H p6 = none := same_new (s5.trans (sm_new hq6)) hp6
    have hx := hx.same ((sm_new hq6).trans (sm_new (o := .lst ([V.bl (decide (i = 0)), V.bl (decide (i = 1)), V.bl (decide (i = 2)), V.bl (decide (i = 3)), V.bl (decide (i = 4)), V.bl (decide (i = 5)), V.bl (decide (i = 6)), V.bl (decide (i = 7)), V.bl (decide (i = 8)), V.bl (decide (i = 9)), V.bl (decide (i = 10)), V.bl (decide (i = 11)), V.bl (decide (i = 12)), V.bl (decide (i = 13)), V.bl (decide (i = 14)), V.bl (decide (i = 15)), V.bl (decide (i = 16)), V.bl (decide (i = 17))] ++ [V.bl (decide (i = 18)), V.bl (decide (i = 19)), V.bl (decide (i = 20))])) hp6))
    generalize upd (upd H5 q6 (.lst [V.bl (decide (i = 18)), V.bl (decide (i = 19)), V.bl (decide (i = 20))])) p6 (.lst ([V.bl (decide (i = 0)), V.bl (decide (i = 1)), V.bl (decide (i = 2)), V.bl (decide (i = 3)), V.bl (decide (i = 4)), V.bl (decide (i = 5)), V.bl (decide (i = 6)), V.bl (decide (i = 7)), V.bl (decide (i = 8)), V.bl (decide (i = 9)), V.bl (decide (i = 10)), V.bl (decide (i = 11)), V.bl (decide (i = 12)), V.bl (decide (i = 13)), V.bl (decide (i = 14)), V.bl (decide (i = 15)), V.bl (decide (i = 16)), V.bl (decide (i = 17))] ++ [V.bl (decide (i = 18)), V.bl (decide (i = 19)), V.bl (decide (i = 20))])) = H6 at s6 h6 hx ⊢
    refine ⟨_, rfl, _, rfl, _, a, _, _, _, kl.exc i hi, rfl, (fun u hu => hu), (show PySem.W.kitOne K (.ref (([C_InvalidReader, C_InvalidChange, C_InvalidHouse, C_InvalidCondition, C_InvalidSaying, C_InvalidSight, C_InvalidCount, C_InvalidSum, C_InvalidRules, C_InvalidBook, C_InvalidTerm, C_InvalidText, C_Refused, C_Bound, C_NoRow, C_InvalidRow, C_InvalidLot, C_InvalidWord, C_InvalidCommand, C_Mismatch, C_NoName, C_NoMark] : List Addr).getD i 0)) (.ref C_NoMark) = some (decide (i = 21)) from kl.kind i 21 hi (by decide)), hx, by show 1 ≤ sizeLine; decide, fun q7 hq7 => ⟨p6, q7, _, _, rfl, rfl, sm_new hq7 _ _ h6, upd_same, by show 22 ≤ sizeLine; decide, fun p7 hp7 => ?_⟩⟩
    have s7 : Same H (upd (upd H6 q7 (.lst [V.bl (decide (i = 21))])) p7 (.lst ([V.bl (decide (i = 0)), V.bl (decide (i = 1)), V.bl (decide (i = 2)), V.bl (decide (i = 3)), V.bl (decide (i = 4)), V.bl (decide (i = 5)), V.bl (decide (i = 6)), V.bl (decide (i = 7)), V.bl (decide (i = 8)), V.bl (decide (i = 9)), V.bl (decide (i = 10)), V.bl (decide (i = 11)), V.bl (decide (i = 12)), V.bl (decide (i = 13)), V.bl (decide (i = 14)), V.bl (decide (i = 15)), V.bl (decide (i = 16)), V.bl (decide (i = 17)), V.bl (decide (i = 18)), V.bl (decide (i = 19)), V.bl (decide (i = 20))] ++ [V.bl (decide (i = 21))]))) := (s6.trans (sm_new hq7)).trans (sm_new hp7)
    have h7 : (upd (upd H6 q7 (.lst [V.bl (decide (i = 21))])) p7 (.lst ([V.bl (decide (i = 0)), V.bl (decide (i = 1)), V.bl (decide (i = 2)), V.bl (decide (i = 3)), V.bl (decide (i = 4)), V.bl (decide (i = 5)), V.bl (decide (i = 6)), V.bl (decide (i = 7)), V.bl (decide (i = 8)), V.bl (decide (i = 9)), V.bl (decide (i = 10)), V.bl (decide (i = 11)), V.bl (decide (i = 12)), V.bl (decide (i = 13)), V.bl (decide (i = 14)), V.bl (decide (i = 15)), V.bl (decide (i = 16)), V.bl (decide (i = 17)), V.bl (decide (i = 18)), V.bl (decide (i = 19)), V.bl (decide (i = 20))] ++ [V.bl (decide (i = 21))]))) p7 = some (.lst [V.bl (decide (i = 0)), V.bl (decide (i = 1)), V.bl (decide (i = 2)), V.bl (decide (i = 3)), V.bl (decide (i = 4)), V.bl (decide (i = 5)), V.bl (decide (i = 6)), V.bl (decide (i = 7)), V.bl (decide (i = 8)), V.bl (decide (i = 9)), V.bl (decide (i = 10)), V.bl (decide (i = 11)), V.bl (decide (i = 12)), V.bl (decide (i = 13)), V.bl (decide (i = 14)), V.bl (decide (i = 15)), V.bl (decide (i = 16)), V.bl (decide (i = 17)), V.bl (decide (i = 18)), V.bl (decide (i = 19)), V.bl (decide (i = 20)), V.bl (decide (i = 21))]) := upd_same
    have n7 : H p7 = none := same_new (s6.trans (sm_new hq7)) hp7
    exact k p7 _ s7 n7 h7
end
end Toy
set_option maxHeartbeats 2000000
namespace Toy
open PySem L2 C8 SX LX
local macro_rules | `(tactic| walk_at "c") => `(tactic| refine And.intro (by first | (show (0 : Int) < _; omega) | exact Or.inr ⟨by decide, by decide⟩ | exact Or.inl ⟨by decide, by decide⟩ | (exact ⟨by omega, by omega⟩)) ?_)
local macro_rules | `(tactic| walk_at "s1") => `(tactic| first | refine ⟨_, rfl, ?_⟩ | refine ⟨_, _, rfl, rfl, ?_⟩ | refine .inl ⟨_, rfl, ?_⟩ | walk_at "c")
local macro_rules | `(tactic| walk_at "ix") => `(tactic| refine ⟨_, _, _, _, rfl, rfl, SqL.of (by first | assumption | exact upd_same), rfl, ?_⟩)
local macro_rules | `(tactic| walk_at "s") => `(tactic| repeat (walk_at "s1"))
def PL (cs : List Addr) (H : Hp) (p : Addr) (v : V) (ix : List Nat) : Prop := ∃ (ts es : List Addr), ts.length = ix.length ∧ es.length = ix.length ∧ H p = some (.lst (ts.map V.ref)) ∧ ∀ (k : Nat) (t e : Addr) (i : Nat), ts[k]? = some t → es[k]? = some e → ix[k]? = some i → H t = some (.tup [.ref e, v]) ∧ ExD H e (cs.getD i 0)
theorem PL.same {cs : List Addr} {H H' : Hp} {p : Addr} {v : V} {ix : List Nat} (h : PL cs H p v ix) (s : Same H H') : PL cs H' p v ix := let ⟨ts, es, h1, h2, h3, h4⟩ := h; ⟨ts, es, h1, h2, s _ _ h3, fun k t e i a b c => ⟨s _ _ (h4 k t e i a b c).1, (h4 k t e i a b c).2.same s⟩⟩
theorem refs_of {P : Nat → Addr → Prop} : ∀ {ys : List V}, (∀ (j : Nat) y, ys[j]? = some y → ∃ t, y = .ref t ∧ P j t) → ∃ ts : List Addr, ys = ts.map V.ref ∧ ∀ (j : Nat) (t : Addr), ts[j]? = some t → P j t
  | [], _ => ⟨[], rfl, fun _ _ h => by simp at h⟩
  | y :: ys, h => by
    obtain ⟨t, rfl, h2⟩ := h 0 y rfl
    obtain ⟨ts, h3, h4⟩ := refs_of (P := fun j t => P (j + 1) t) (ys := ys) fun j z e => h (j + 1) z e
    refine ⟨t :: ts, by rw [h3]; rfl, fun j u e => ?_⟩
    cases j with
    | zero => cases e; exact h2
    | succ j => exact h4 j u e
theorem pl_of {cs : List Addr} {H : Hp} {D : Addr} {v : V} {ix : List Nat} {es : List Addr} {ys : List V} (hl : ys.length = es.length) (he : es.length = ix.length) (hD : H D = some (.lst ys)) (hg : ∀ (j : Nat) y, ys[j]? = some y → ∃ t, y = .ref t ∧ ∀ e, es[j]? = some e → H t = some (.tup [.ref e, v]))
    (hx : ∀ (k : Nat) (e : Addr) (i : Nat), es[k]? = some e → ix[k]? = some i → ExD H e (cs.getD i 0)) : PL cs H D v ix := by
  obtain ⟨ts, rfl, ht⟩ := refs_of hg
  rw [List.length_map] at hl
  exact ⟨ts, es, hl.trans he, he, hD, fun k t e i a b c => ⟨ht k t a e b, hx k e i b c⟩⟩
theorem PL.append {cs : List Addr} {H H' : Hp} {p q r : Addr} {v : V} {ix jx : List Nat} {xs ys : List V} (h1 : PL cs H p v ix) (h2 : PL cs H q v jx) (s : Same H H') (hp : H p = some (.lst xs)) (hq : H q = some (.lst ys)) (hr : H' r = some (.lst (xs ++ ys))) : PL cs H' r v (ix ++ jx) := by
  obtain ⟨ts, es, a1, a2, a3, a4⟩ := h1
  obtain ⟨us, fs, b1, b2, b3, b4⟩ := h2
  rw [hp] at a3; cases a3
  rw [hq] at b3; cases b3
  refine ⟨ts ++ us, es ++ fs, by simp [a1, b1], by simp [a2, b2], by rw [hr, List.map_append], fun k t e i c1 c2 c3 => ?_⟩
  rcases Nat.lt_or_ge k ix.length with h | h
  · rw [List.getElem?_append_left (by omega)] at c1 c2 c3
    exact ⟨s _ _ (a4 k t e i c1 c2 c3).1, (a4 k t e i c1 c2 c3).2.same s⟩
  · rw [List.getElem?_append_right (by omega)] at c1 c2 c3
    rw [a1] at c1; rw [a2] at c2
    exact ⟨s _ _ (b4 _ t e i c1 c2 c3).1, (b4 _ t e i c1 c2 c3).2.same s⟩
def AX (cs : List Addr) (f : Str) (v : V) (H : Hp) : List Addr → List Nat → Prop
  | [], [] => True
  | e :: es, i :: ix => ExV H e (cs.getD i 0) f v ∧ AX cs f v H es ix
  | _, _ => False
section
variable {cs : List Addr} {f : Str} {v : V} {H H' : Hp} {ix jx : List Nat} {σ : L2.St}
theorem AX.same (s : Same H H') : ∀ {es : List Addr} {ix : List Nat}, AX cs f v H es ix → AX cs f v H' es ix
  | [], [], _ => trivial
  | _ :: _, _ :: _, h => ⟨h.1.same s, AX.same s h.2⟩
  | [], _ :: _, h => h.elim
  | _ :: _, [], h => h.elim
theorem AX.len : ∀ {es : List Addr} {ix : List Nat}, AX cs f v H es ix → es.length = ix.length
  | [], [], _ => rfl
  | _ :: _, _ :: _, h => by rw [List.length_cons, List.length_cons, AX.len h.2]
  | [], _ :: _, h => h.elim
  | _ :: _, [], h => h.elim
theorem AX.app : ∀ {es fs : List Addr} {ix jx : List Nat}, AX cs f v H es ix → AX cs f v H fs jx → AX cs f v H (es ++ fs) (ix ++ jx)
  | [], _, [], _, _, h => h
  | _ :: _, _, _ :: _, _, h, h2 => ⟨h.1, AX.app h.2 h2⟩
  | [], _, _ :: _, _, h, _ => h.elim
  | _ :: _, _, [], _, h, _ => h.elim
theorem AX.at : ∀ {es : List Addr} {ix : List Nat}, AX cs f v H es ix → ∀ {k : Nat} {e : Addr}, es[k]? = some e → ∃ i, ix[k]? = some i ∧ ExV H e (cs.getD i 0) f v
  | [], [], _, k, e, h => by simp at h
  | _ :: _, _ :: _, h, 0, e, he => by cases he; exact ⟨_, rfl, h.1⟩
  | _ :: _, _ :: _, h, k + 1, e, he => AX.at h.2 he
  | [], _ :: _, h, _, _, _ => h.elim
  | _ :: _, [], h, _, _, _ => h.elim
theorem AX.exd {es : List Addr} (h : AX cs f v H es ix) : ∀ (k : Nat) (e : Addr) (i : Nat), es[k]? = some e → ix[k]? = some i → ExD H e (cs.getD i 0) := fun k e i he hi => by
  obtain ⟨j, hj, x⟩ := h.at he
  rw [hi] at hj; cases hj
  exact .inl ⟨_, _, x⟩
def XR (cs : List Addr) (f : Str) (v : V) (ta : TA) (σ : L2.St) (H : Hp) (ix : List Nat) : Prop := ∀ Q : List V → Hp → Prop, (∀ es H', Same H H' → AX cs f v H' es ix → Q (es.map V.ref) H') → ta σ H Q
theorem xr_nil : XR cs f v tNil σ H [] := fun _ q => q [] H (Same.refl _) trivial
theorem xr_cons {i j : Nat} {C : Addr} {ta : TA} (hv : σ[j]? = some (some v)) (hC : cs.getD i 0 = C) (h : ∀ H', Same H H' → XR cs f v ta σ H' ix) : XR cs f v (tCons (tMkV C (spXInit C f) (tCons (tVar j) tNil)) ta) σ H (i :: ix) :=
  fun Q q => ⟨v, hv, rfl, made_read (Q := fun x H1 => ta σ H1 fun xs H2 => Q (x :: xs) H2) fun a H1 s1 _ x1 => h H1 s1 _ fun es H2 s2 a2 => q (a :: es) H2 (s1.trans s2) ⟨by rw [hC]; exact x1.same s2, a2⟩⟩
theorem xr_lst {ta : TA} {Q : VK} (h : XR cs f v ta σ H ix) (hl : ix.length ≤ sizeLine) (q : ∀ p es H', Same H H' → H p = none → H' p = some (.lst (es.map V.ref)) → AX cs f v H' es ix → Q (.ref p) H') : tLst ta σ H Q :=
  h _ fun es H1 s1 a => ⟨by rw [List.length_map, a.len]; exact hl, fun p hp => q p es _ (s1.trans (sm_new hp)) (same_new s1 hp) upd_same (a.same (sm_new hp))⟩
theorem xr_tup {ta : TA} {Q : VK} (h : XR cs f v ta σ H ix) (hl : ix.length ≤ sizeLine) (q : ∀ p es H', Same H H' → H p = none → H' p = some (.tup (es.map V.ref)) → AX cs f v H' es ix → Q (.ref p) H') : tTup ta σ H Q :=
  h _ fun es H1 s1 a => ⟨by rw [List.length_map, a.len]; exact hl, fun p hp => q p es _ (s1.trans (sm_new hp)) (same_new s1 hp) upd_same (a.same (sm_new hp))⟩
theorem xr_cat {ta : TA} {Q : VK} {p : Addr} {es : List Addr} {j : Nat} (hp : H p = some (.lst (es.map V.ref))) (a : AX cs f v H es ix) (hj : σ[j]? = some (some (V.ref p))) (h : XR cs f v ta σ H jx) (hl : ix.length + jx.length ≤ sizeLine)
    (q : ∀ p es H', Same H H' → H p = none → H' p = some (.lst (es.map V.ref)) → AX cs f v H' es (ix ++ jx) → Q (.ref p) H') : tOp rCat (tVar j) (tLst ta) σ H Q :=
  ⟨_, hj, xr_lst h (by omega) fun p2 es2 H2 s2 _ h2 a2 => ⟨p, p2, _, _, rfl, rfl, s2 _ _ hp, h2, by rw [List.length_map, List.length_map, a.len, a2.len]; exact hl, fun p3 hp3 => q p3 (es ++ es2) _ (s2.trans (sm_new hp3)) (same_new s2 hp3) (by rw [List.map_append]; exact upd_same) (((a.same s2).app a2).same (sm_new hp3))⟩⟩
end
section
variable {P : Program} {w : World} {K : PySem.W.Frag} {mg : Str → Option Value} {base : Heap} {C_InvalidReader C_InvalidChange C_InvalidHouse C_InvalidCondition C_InvalidSaying C_InvalidSight C_InvalidCount C_InvalidSum C_InvalidRules C_InvalidBook C_InvalidTerm C_InvalidText C_Refused C_Bound C_NoRow C_InvalidRow C_InvalidLot C_InvalidWord C_InvalidCommand C_Mismatch C_NoName C_NoMark R : Addr}
abbrev s_words : Stmt := top 29
abbrev n_words : List Str := ["value", "some", "one"]
theorem sc_words : FnScope n_words ["value"] (fnScope s_words) := fnScope_by (by decide +kernel)
def spWords (cs : List Addr) : Sp := fun vs H Q _ => ∃ v : V, vs = [v] ∧ ∀ (p : Addr) (H' : Hp), Same H H' → H p = none → PL cs H' p v [0, 1, 2, 3, 4, 5, 6, 7, 8, 9] → Q (.ref p) H'
theorem ok_words (T : BT mg) (kl : KL K [C_InvalidReader, C_InvalidChange, C_InvalidHouse, C_InvalidCondition, C_InvalidSaying, C_InvalidSight, C_InvalidCount, C_InvalidSum, C_InvalidRules, C_InvalidBook, C_InvalidTerm, C_InvalidText, C_Refused, C_Bound, C_NoRow, C_InvalidRow, C_InvalidLot, C_InvalidWord, C_InvalidCommand, C_Mismatch, C_NoName, C_NoMark] R) (c_InvalidReader : ValX P w K mg base 1 "InvalidReader" C_InvalidReader "word" (spXInit C_InvalidReader "word")) (c_InvalidChange : ValX P w K mg base 1 "InvalidChange" C_InvalidChange "word" (spXInit C_InvalidChange "word")) (c_InvalidHouse : ValX P w K mg base 1 "InvalidHouse" C_InvalidHouse "word" (spXInit C_InvalidHouse "word")) (c_InvalidCondition : ValX P w K mg base 1 "InvalidCondition" C_InvalidCondition "word" (spXInit C_InvalidCondition "word")) (c_InvalidSaying : ValX P w K mg base 1 "InvalidSaying" C_InvalidSaying "word" (spXInit C_InvalidSaying "word")) (c_InvalidSight : ValX P w K mg base 1 "InvalidSight" C_InvalidSight "word" (spXInit C_InvalidSight "word")) (c_InvalidCount : ValX P w K mg base 1 "InvalidCount" C_InvalidCount "word" (spXInit C_InvalidCount "word")) (c_InvalidSum : ValX P w K mg base 1 "InvalidSum" C_InvalidSum "word" (spXInit C_InvalidSum "word")) (c_InvalidRules : ValX P w K mg base 1 "InvalidRules" C_InvalidRules "word" (spXInit C_InvalidRules "word")) (c_InvalidBook : ValX P w K mg base 1 "InvalidBook" C_InvalidBook "word" (spXInit C_InvalidBook "word")) {f : Addr} {fd : FuncData} (F : Def K mg "_law_words" s_words f fd) (b : Binds K fd ["value"] []) : Cal P w K mg base 3 "_law_words" (spWords [C_InvalidReader, C_InvalidChange, C_InvalidHouse, C_InvalidCondition, C_InvalidSaying, C_InvalidSight, C_InvalidCount, C_InvalidSum, C_InvalidRules, C_InvalidBook, C_InvalidTerm, C_InvalidText, C_Refused, C_Bound, C_NoRow, C_InvalidRow, C_InvalidLot, C_InvalidWord, C_InvalidCommand, C_Mismatch, C_NoName, C_NoMark]) [] := by
  refine cal0 F b .nil sc_words (fun vs H Q E h => ?_) (fun cdv A outer s H vs Q E hr h => ?_)
  · obtain ⟨v, rfl, _⟩ := h; rfl
  · obtain ⟨v, rfl, k⟩ := h
    refine ⟨_, (pss_cons (ps_set (i := 1) sc_words.nd rfl (.inl rfl) (pe_lst (pa_cons (pe_mkV c_InvalidReader hr (by decide) (by rfl) (pa_cons (pv 0) pa_nil)) (pa_cons (pe_mkVk c_InvalidChange hr (by decide) (by rfl) (pk_cons (pv 0) pk_nil)) (pa_cons (pe_mkV c_InvalidHouse hr (by decide) (by rfl) (pa_cons (pv 0) pa_nil)) (pa_cons (pe_mkVk c_InvalidCondition hr (by decide) (by rfl) (pk_cons (pv 0) pk_nil)) pa_nil))))))
      (pss_cons (ps_set (i := 1) sc_words.nd rfl (.inl rfl) (pe_op op_cat (pv 1) (pe_lst (pa_cons (pe_mkV c_InvalidSaying hr (by decide) (by rfl) (pa_cons (pv 0) pa_nil)) (pa_cons (pe_mkVk c_InvalidSight hr (by decide) (by rfl) (pk_cons (pv 0) pk_nil)) (pa_cons (pe_mkV c_InvalidCount hr (by decide) (by rfl) (pa_cons (pv 0) pa_nil)) (pa_cons (pe_mkVk c_InvalidSum hr (by decide) (by rfl) (pk_cons (pv 0) pk_nil)) pa_nil)))))))
      (pss_cons (ps_set (i := 1) sc_words.nd rfl (.inl rfl) (pe_op op_cat (pv 1) (pe_lst (pa_cons (pe_mkV c_InvalidRules hr (by decide) (by rfl) (pa_cons (pv 0) pa_nil)) (pa_cons (pe_mkVk c_InvalidBook hr (by decide) (by rfl) (pk_cons (pv 0) pk_nil)) pa_nil)))))
      (pss_one (ps_ret (pe_lc (own := [("one", 2)]) rfl sc_words.nd (pi_list (pv 1)) (blkOk_by (N := n_words) (sc := fnScope s_words) (by decide +kernel)) (fun _ _ _ _ _ => (pg_name (i := 2) sc_words.nd rfl (.inl rfl))) (fun _ _ _ _ _ => pts_nil) (fun _ _ _ _ _ => (pe_tup (pa_cons (pv 2) (pa_cons (pe_xfV K (pv 2)) pa_nil))))))
      )))), ?_⟩
    unfold tSeq tAsg
    dsimp only
    refine xr_lst (cs := [C_InvalidReader, C_InvalidChange, C_InvalidHouse, C_InvalidCondition, C_InvalidSaying, C_InvalidSight, C_InvalidCount, C_InvalidSum, C_InvalidRules, C_InvalidBook, C_InvalidTerm, C_InvalidText, C_Refused, C_Bound, C_NoRow, C_InvalidRow, C_InvalidLot, C_InvalidWord, C_InvalidCommand, C_Mismatch, C_NoName, C_NoMark]) (v := v) (f := "word") (xr_cons (i := 0) rfl rfl fun _ _ => (xr_cons (i := 1) rfl rfl fun _ _ => (xr_cons (i := 2) rfl rfl fun _ _ => (xr_cons (i := 3) rfl rfl fun _ _ => xr_nil)))) (by decide) fun p0 es0 G0 s0 n0 h0 a0 => gn1 ?_
    refine xr_cat h0 a0 rfl (xr_cons (i := 4) rfl rfl fun _ _ => (xr_cons (i := 5) rfl rfl fun _ _ => (xr_cons (i := 6) rfl rfl fun _ _ => (xr_cons (i := 7) rfl rfl fun _ _ => xr_nil)))) (by decide) fun p1 es1 G1 s1 n1 h1 a1 => gn1 ?_
    refine xr_cat h1 a1 rfl (xr_cons (i := 8) rfl rfl fun _ _ => (xr_cons (i := 9) rfl rfl fun _ _ => xr_nil)) (by decide) fun p2 es J2 s2 n2 h2 a2 => gn1 ?_
    have eH : Same H J2 := (s0.trans s1).trans s2
    have hl10 : es.length = 10 := a2.len
    refine ⟨_, rfl, p2, rfl, ⟨_, SqL.of h2⟩, fun D hD => ?_⟩
    refine lc_keepH keep_same (walk_list (K := K) (a := p2) (xs := es.map V.ref)) hD (by rw [List.length_map, hl10]; decide) (fun j y H => ∃ t, y = .ref t ∧ ∀ e, es[j]? = some e → H t = some (.tup [.ref e, v])) (fun H r => SqL.of (r _ _ h2))
      (fun _ _ _ _ _ r ⟨t, e, h⟩ => ⟨t, e, fun x hx => r _ _ (h x hx)⟩) (fun j y Hc acc o r hDa ⟨t, e, h⟩ => ⟨t, e, fun x hx => by rw [upd_ne (ne_of (h x hx) hDa (by intro h; cases h))]; exact h x hx⟩) (fun j x H4 H5 acc R hj r hDa hy hR => ?_) (fun ys H4 hly hg r hDs => ?_)
    · obtain ⟨rfl, e⟩ := hy
      rw [List.getElem?_map] at e
      cases ej : es[j]? with
      | none => rw [ej] at e; cases e
      | some a =>
        rw [ej] at e; cases e
        obtain ⟨i, hi, hxv⟩ := a2.at ej
        have hi10 : i < 10 := by
          have := List.mem_of_getElem? hi
          revert this
          show i ∈ [0, 1, 2, 3, 4, 5, 6, 7, 8, 9] → _
          intro h
          simp at h
          omega
        refine ⟨rfl, ?_⟩
        refine ⟨_, rfl, _, rfl, a, _, v, rfl, (kl.wf i hi10).1, (kl.wf i hi10).2, hxv.same r, by show 2 ≤ sizeLine; decide, fun t ht => ?_⟩
        exact hR _ _ (sm_new ht) ⟨t, rfl, fun e he => by rw [ej] at he; cases he; exact upd_same⟩
    · rw [List.length_map] at hly
      exact k D H4 (eH.trans r) (same_new eH hD) (pl_of hly hl10 hDs hg (a2.same r).exd)
end
end Toy
set_option maxHeartbeats 2000000
namespace Toy
open PySem L2 C8 SX LX
local macro_rules | `(tactic| walk_at "c") => `(tactic| refine And.intro (by first | (show (0 : Int) < _; omega) | exact Or.inr ⟨by decide, by decide⟩ | exact Or.inl ⟨by decide, by decide⟩ | (exact ⟨by omega, by omega⟩)) ?_)
local macro_rules | `(tactic| walk_at "s1") => `(tactic| first | refine ⟨_, rfl, ?_⟩ | refine ⟨_, _, rfl, rfl, ?_⟩ | refine .inl ⟨_, rfl, ?_⟩ | walk_at "c")
local macro_rules | `(tactic| walk_at "ix") => `(tactic| refine ⟨_, _, _, _, rfl, rfl, SqL.of (by first | assumption | exact upd_same), rfl, ?_⟩)
local macro_rules | `(tactic| walk_at "s") => `(tactic| repeat (walk_at "s1"))
def AT (cs : List Addr) (f : Str) (v : V) (H : Hp) : List Addr → List Nat → Prop
  | [], [] => True
  | t :: ts, i :: ix => (∃ e, H t = some (.tup [.ref e, .int 0]) ∧ ExV H e (cs.getD i 0) f v) ∧ AT cs f v H ts ix
  | _, _ => False
section
variable {cs : List Addr} {f : Str} {v : V} {H H' : Hp} {ix jx : List Nat} {σ : L2.St}
theorem AT.same (s : Same H H') : ∀ {es : List Addr} {ix : List Nat}, AT cs f v H es ix → AT cs f v H' es ix
  | [], [], _ => trivial
  | _ :: _, _ :: _, h => ⟨let ⟨e, h1, h2⟩ := h.1; ⟨e, s _ _ h1, h2.same s⟩, AT.same s h.2⟩
  | [], _ :: _, h => h.elim
  | _ :: _, [], h => h.elim
theorem AT.len : ∀ {es : List Addr} {ix : List Nat}, AT cs f v H es ix → es.length = ix.length
  | [], [], _ => rfl
  | _ :: _, _ :: _, h => by rw [List.length_cons, List.length_cons, AT.len h.2]
  | [], _ :: _, h => h.elim
  | _ :: _, [], h => h.elim
theorem AT.ax : ∀ {ts : List Addr} {ix : List Nat}, AT cs f v H ts ix → ∃ es, AX cs f v H es ix ∧ ∀ (k : Nat) (t : Addr), ts[k]? = some t → ∃ e, es[k]? = some e ∧ H t = some (.tup [.ref e, .int 0])
  | [], [], _ => ⟨[], trivial, fun k t h => by simp at h⟩
  | _ :: _, _ :: _, h => by
    obtain ⟨⟨e, h1, h2⟩, h3⟩ := h
    obtain ⟨es, a, g⟩ := AT.ax h3
    refine ⟨e :: es, ⟨h2, a⟩, fun k t ht => ?_⟩
    cases k with
    | zero => cases ht; exact ⟨e, rfl, h1⟩
    | succ k => exact g k t ht
  | [], _ :: _, h => h.elim
  | _ :: _, [], h => h.elim
def TR (cs : List Addr) (f : Str) (v : V) (ta : TA) (σ : L2.St) (H : Hp) (ix : List Nat) : Prop := ∀ Q : List V → Hp → Prop, (∀ es H', Same H H' → AT cs f v H' es ix → Q (es.map V.ref) H') → ta σ H Q
theorem tr_nil : TR cs f v tNil σ H [] := fun _ q => q [] H (Same.refl _) trivial
theorem tr_cons {i j : Nat} {C : Addr} {ta : TA} (hv : σ[j]? = some (some v)) (hC : cs.getD i 0 = C) (h : ∀ H', Same H H' → TR cs f v ta σ H' ix) : TR cs f v (tCons (tTup (tCons (tMkV C (spXInit C f) (tCons (tVar j) tNil)) (tCons (tC (.int 0)) tNil))) ta) σ H (i :: ix) :=
  fun Q q => ⟨v, hv, rfl, made_read (Q := fun x H1 => [x, V.int 0].length ≤ sizeLine ∧ ∀ p, H1 p = none → (fun x H1 => ta σ H1 fun xs H2 => Q (x :: xs) H2) (.ref p) (upd H1 p (.tup [x, V.int 0]))) fun a H1 s1 _ x1 => ⟨by show 2 ≤ sizeLine; decide, fun p hp => h _ (s1.trans (sm_new hp)) _ fun es H2 s2 a2 => q (p :: es) H2 ((s1.trans (sm_new hp)).trans s2) ⟨⟨a, s2 _ _ upd_same, by rw [hC]; exact (x1.same (sm_new hp)).same s2⟩, a2⟩⟩⟩
theorem tr_lst {ta : TA} {Q : VK} (h : TR cs f v ta σ H ix) (hl : ix.length ≤ sizeLine) (q : ∀ p es H', Same H H' → H p = none → H' p = some (.lst (es.map V.ref)) → AT cs f v H' es ix → Q (.ref p) H') : tLst ta σ H Q :=
  h _ fun es H1 s1 a => ⟨by rw [List.length_map, a.len]; exact hl, fun p hp => q p es _ (s1.trans (sm_new hp)) (same_new s1 hp) upd_same (a.same (sm_new hp))⟩
end
section
variable {P : Program} {w : World} {K : PySem.W.Frag} {mg : Str → Option Value} {base : Heap} {C_InvalidReader C_InvalidChange C_InvalidHouse C_InvalidCondition C_InvalidSaying C_InvalidSight C_InvalidCount C_InvalidSum C_InvalidRules C_InvalidBook C_InvalidTerm C_InvalidText C_Refused C_Bound C_NoRow C_InvalidRow C_InvalidLot C_InvalidWord C_InvalidCommand C_Mismatch C_NoName C_NoMark R : Addr}
abbrev s_marked : Stmt := top 31
abbrev n_marked : List Str := ["value", "one"]
theorem sc_marked : FnScope n_marked ["value"] (fnScope s_marked) := fnScope_by (by decide +kernel)
def spMarked (cs : List Addr) : Sp := fun vs H Q _ => ∃ v : V, vs = [v] ∧ ∀ (p : Addr) (H' : Hp), Same H H' → H p = none → PL cs H' p v [21] → Q (.ref p) H'
theorem ok_marked (T : BT mg) (kl : KL K [C_InvalidReader, C_InvalidChange, C_InvalidHouse, C_InvalidCondition, C_InvalidSaying, C_InvalidSight, C_InvalidCount, C_InvalidSum, C_InvalidRules, C_InvalidBook, C_InvalidTerm, C_InvalidText, C_Refused, C_Bound, C_NoRow, C_InvalidRow, C_InvalidLot, C_InvalidWord, C_InvalidCommand, C_Mismatch, C_NoName, C_NoMark] R) (c_NoMark : ValX P w K mg base 1 "NoMark" C_NoMark "mark" (spXInit C_NoMark "mark")) {f : Addr} {fd : FuncData} (F : Def K mg "_law_marked" s_marked f fd) (b : Binds K fd ["value"] []) : Cal P w K mg base 3 "_law_marked" (spMarked [C_InvalidReader, C_InvalidChange, C_InvalidHouse, C_InvalidCondition, C_InvalidSaying, C_InvalidSight, C_InvalidCount, C_InvalidSum, C_InvalidRules, C_InvalidBook, C_InvalidTerm, C_InvalidText, C_Refused, C_Bound, C_NoRow, C_InvalidRow, C_InvalidLot, C_InvalidWord, C_InvalidCommand, C_Mismatch, C_NoName, C_NoMark]) [] := by
  refine cal0 F b .nil sc_marked (fun vs H Q E h => ?_) (fun cdv A outer s H vs Q E hr h => ?_)
  · obtain ⟨v, rfl, _⟩ := h; rfl
  · obtain ⟨v, rfl, k⟩ := h
    refine ⟨_, (pss_cons (ps_set (i := 1) sc_marked.nd rfl (.inl rfl) (pe_mkVk c_NoMark hr (by decide) (by rfl) (pk_cons (pv 0) pk_nil)))
      (pss_one (ps_ret (pe_lst (pa_cons (pe_tup (pa_cons (pv 1) (pa_cons (pe_xfV K (pv 1)) pa_nil))) pa_nil)))
      )), ?_⟩
    unfold tSeq tAsg
    dsimp only
    refine ⟨v, rfl, rfl, made_read (Q := fun x H1 => gName 1 x _ H1 _) fun a H1 s1 n1 x1 => gn1 ?_⟩
    refine ⟨_, rfl, _, rfl, a, _, v, rfl, kl.mf.1, kl.mf.2, x1, by show 2 ≤ sizeLine; decide, fun t ht => ⟨by show 1 ≤ sizeLine; decide, fun p hp => ?_⟩⟩
    have s2 := (sm_new (o := .tup [V.ref a, v]) ht).trans (sm_new (o := .lst [V.ref t]) hp)
    refine k p _ (s1.trans s2) (same_new (s1.trans (sm_new ht)) hp) ⟨[t], [a], rfl, rfl, upd_same, fun k t' e i ht' he hi => ?_⟩
    match k, ht', he, hi with
    | 0, ht', he, hi => cases ht'; cases he; cases hi; exact ⟨sm_new hp _ _ upd_same, .inl ⟨_, _, x1.same s2⟩⟩
    | k + 1, ht', _, _ => simp at ht'
abbrev s_others : Stmt := top 30
abbrev n_others : List Str := ["value", "some", "found", "named", "one", "spot"]
theorem sc_others : FnScope n_others ["value"] (fnScope s_others) := fnScope_by (by decide +kernel)
def spOthers (cs : List Addr) : Sp := fun vs H Q _ => ∃ v : V, vs = [v] ∧ ∀ (p : Addr) (H' : Hp), Same H H' → H p = none → PL cs H' p v [10, 10, 11, 12, 13, 14, 20, 21] → Q (.ref p) H'
theorem ok_others (T : BT mg) (kl : KL K [C_InvalidReader, C_InvalidChange, C_InvalidHouse, C_InvalidCondition, C_InvalidSaying, C_InvalidSight, C_InvalidCount, C_InvalidSum, C_InvalidRules, C_InvalidBook, C_InvalidTerm, C_InvalidText, C_Refused, C_Bound, C_NoRow, C_InvalidRow, C_InvalidLot, C_InvalidWord, C_InvalidCommand, C_Mismatch, C_NoName, C_NoMark] R) (c_InvalidTerm : ValX P w K mg base 1 "InvalidTerm" C_InvalidTerm "at" (spXInit C_InvalidTerm "at")) (c_InvalidText : ValX P w K mg base 1 "InvalidText" C_InvalidText "at" (spXInit C_InvalidText "at")) (c_Refused : ValX P w K mg base 1 "Refused" C_Refused "at" (spXInit C_Refused "at")) (c_Bound : ValX P w K mg base 1 "Bound" C_Bound "name" (spXInit C_Bound "name")) (c_NoRow : ValX P w K mg base 1 "NoRow" C_NoRow "name" (spXInit C_NoRow "name")) (c_NoName : ValX P w K mg base 1 "NoName" C_NoName "name" (spXInit C_NoName "name")) (c_marked : Cal P w K mg base 3 "_law_marked" (spMarked [C_InvalidReader, C_InvalidChange, C_InvalidHouse, C_InvalidCondition, C_InvalidSaying, C_InvalidSight, C_InvalidCount, C_InvalidSum, C_InvalidRules, C_InvalidBook, C_InvalidTerm, C_InvalidText, C_Refused, C_Bound, C_NoRow, C_InvalidRow, C_InvalidLot, C_InvalidWord, C_InvalidCommand, C_Mismatch, C_NoName, C_NoMark]) []) {f : Addr} {fd : FuncData} (F : Def K mg "_law_others" s_others f fd) (b : Binds K fd ["value"] []) : Cal P w K mg base 4 "_law_others" (spOthers [C_InvalidReader, C_InvalidChange, C_InvalidHouse, C_InvalidCondition, C_InvalidSaying, C_InvalidSight, C_InvalidCount, C_InvalidSum, C_InvalidRules, C_InvalidBook, C_InvalidTerm, C_InvalidText, C_Refused, C_Bound, C_NoRow, C_InvalidRow, C_InvalidLot, C_InvalidWord, C_InvalidCommand, C_Mismatch, C_NoName, C_NoMark]) [] := by
  refine cal0 F b .nil sc_others (fun vs H Q E h => ?_) (fun cdv A outer s H vs Q E hr h => ?_)
  · obtain ⟨v, rfl, _⟩ := h; rfl
  · obtain ⟨v, rfl, k⟩ := h
    refine ⟨_, (pss_cons (ps_set (i := 1) sc_others.nd rfl (.inl rfl) (pe_lst (pa_cons (pe_tup (pa_cons (pe_mkV c_InvalidTerm hr (by decide) (by rfl) (pa_cons (pv 0) pa_nil)) (pa_cons pe_int pa_nil))) (pa_cons (pe_tup (pa_cons (pe_mkVk c_InvalidTerm hr (by decide) (by rfl) (pk_cons (pv 0) pk_nil)) (pa_cons pe_int pa_nil))) (pa_cons (pe_tup (pa_cons (pe_mkV c_InvalidText hr (by decide) (by rfl) (pa_cons (pv 0) pa_nil)) (pa_cons pe_int pa_nil))) (pa_cons (pe_tup (pa_cons (pe_mkVk c_Refused hr (by decide) (by rfl) (pk_cons (pv 0) pk_nil)) (pa_cons pe_int pa_nil))) pa_nil))))))
      (pss_cons (ps_setLc (i := 2) (own := [("one", 4), ("spot", 5)]) rfl sc_others.nd rfl rfl rfl (pi_list (pv 1)) (blkOk_by (N := n_others) (sc := fnScope s_others) (by decide +kernel)) (fun _ _ _ _ _ => (tupK K 2 (pgs_cons (pg_name (i := 4) sc_others.nd rfl (.inl rfl)) (pgs_cons (pg_name (i := 5) sc_others.nd rfl (.inl rfl)) pgs_nil)))) (fun _ _ _ _ _ => pts_nil) (fun _ _ _ _ _ => (pe_tup (pa_cons (pv 4) (pa_cons (pe_xfV K (pv 4)) pa_nil)))))
      (pss_cons (ps_setLc (i := 3) (own := [("one", 4)]) rfl sc_others.nd rfl rfl rfl (pi_tup (pe_tup (pa_cons (pe_mkV c_Bound hr (by decide) (by rfl) (pa_cons (pv 0) pa_nil)) (pa_cons (pe_mkVk c_NoRow hr (by decide) (by rfl) (pk_cons (pv 0) pk_nil)) (pa_cons (pe_mkV c_NoName hr (by decide) (by rfl) (pa_cons (pv 0) pa_nil)) pa_nil))))) (blkOk_by (N := n_others) (sc := fnScope s_others) (by decide +kernel)) (fun _ _ _ _ _ => (pg_name (i := 4) sc_others.nd rfl (.inl rfl))) (fun _ _ _ _ _ => pts_nil) (fun _ _ _ _ _ => (pe_tup (pa_cons (pv 4) (pa_cons (pe_xfV K (pv 4)) pa_nil)))))
      (pss_one (ps_ret (pe_op op_cat (pe_op op_cat (pv 2) (pv 3)) (pe_c c_marked hr (by first | decide | omega) (by rfl) (pa_cons (pv 0) pa_nil))))
      )))), ?_⟩
    unfold tSeq tAsg
    dsimp only
    refine tr_lst (cs := [C_InvalidReader, C_InvalidChange, C_InvalidHouse, C_InvalidCondition, C_InvalidSaying, C_InvalidSight, C_InvalidCount, C_InvalidSum, C_InvalidRules, C_InvalidBook, C_InvalidTerm, C_InvalidText, C_Refused, C_Bound, C_NoRow, C_InvalidRow, C_InvalidLot, C_InvalidWord, C_InvalidCommand, C_Mismatch, C_NoName, C_NoMark]) (v := v) (f := "at") (tr_cons (i := 10) rfl rfl fun _ _ => (tr_cons (i := 10) rfl rfl fun _ _ => (tr_cons (i := 11) rfl rfl fun _ _ => (tr_cons (i := 12) rfl rfl fun _ _ => tr_nil)))) (by decide) fun p0 ts0 G0 s0 n0 h0 a0 => gn1 ?_
    obtain ⟨es0, x0, g0⟩ := a0.ax
    have hl0 : es0.length = 4 := x0.len
    have ht0 : ts0.length = 4 := a0.len
    refine ⟨_, rfl, p0, rfl, ⟨_, SqL.of h0⟩, fun D hD => ?_⟩
    refine lc_keepH keep_same (walk_list (K := K) (a := p0) (xs := ts0.map V.ref)) hD (by rw [List.length_map, ht0]; decide) (fun j y H => ∃ t, y = .ref t ∧ ∀ e, es0[j]? = some e → H t = some (.tup [.ref e, v])) (fun H r => SqL.of (r _ _ h0))
      (fun _ _ _ _ _ r ⟨t, e, h⟩ => ⟨t, e, fun x hx => r _ _ (h x hx)⟩) (fun j y Hc acc o r hDa ⟨t, e, h⟩ => ⟨t, e, fun x hx => by rw [upd_ne (ne_of (h x hx) hDa (by intro h; cases h))]; exact h x hx⟩) (fun j x H4 H5 acc R hj r hDa hy hR => ?_) (fun ys H4 hly hg r hDs => ?_)
    · obtain ⟨rfl, e⟩ := hy
      rw [List.getElem?_map] at e
      cases ej : ts0[j]? with
      | none => rw [ej] at e; cases e
      | some t =>
        rw [ej] at e; cases e
        obtain ⟨a, ea, ht⟩ := g0 j t ej
        obtain ⟨i, hi, hxv⟩ := x0.at ea
        have hi10 : 10 ≤ i ∧ i < 13 := by
          have := List.mem_of_getElem? hi
          revert this
          show i ∈ [10, 10, 11, 12] → _
          intro h
          simp at h
          omega
        refine ⟨_, _, rfl, SqT.of (r _ _ ht), rfl, ?_⟩
        refine ⟨_, _, rfl, _, _, rfl, rfl, ⟨rfl, ?_⟩⟩
        refine ⟨_, rfl, _, rfl, a, _, v, rfl, (kl.af i hi10.1 hi10.2).1, (kl.af i hi10.1 hi10.2).2, hxv.same r, by show 2 ≤ sizeLine; decide, fun t ht => ?_⟩
        exact hR _ _ (sm_new ht) ⟨t, rfl, fun e he => by rw [ea] at he; cases he; exact upd_same⟩
    rw [List.length_map, ht0] at hly
    have pl0 := pl_of (ix := [10, 10, 11, 12]) (hly.trans hl0.symm) hl0 hDs hg (x0.same r).exd
    refine gn1 ?_
    have s04 := s0.trans r
    unfold tLc iTup
    dsimp only
    refine xr_tup (cs := [C_InvalidReader, C_InvalidChange, C_InvalidHouse, C_InvalidCondition, C_InvalidSaying, C_InvalidSight, C_InvalidCount, C_InvalidSum, C_InvalidRules, C_InvalidBook, C_InvalidTerm, C_InvalidText, C_Refused, C_Bound, C_NoRow, C_InvalidRow, C_InvalidLot, C_InvalidWord, C_InvalidCommand, C_Mismatch, C_NoName, C_NoMark]) (v := v) (f := "name") (xr_cons (i := 13) rfl rfl fun _ _ => (xr_cons (i := 14) rfl rfl fun _ _ => (xr_cons (i := 20) rfl rfl fun _ _ => xr_nil))) (by decide) fun p1 es1 G1 s1 n1 h1 a1 => ?_
    have hl1 : es1.length = 3 := a1.len
    refine ⟨p1, rfl, ⟨_, SqT.of h1⟩, fun D1 hD1 => ?_⟩
    refine lc_keepH keep_same (walk_tup (K := K) (a := p1) (xs := es1.map V.ref)) hD1 (by rw [List.length_map, hl1]; decide) (fun j y H => ∃ t, y = .ref t ∧ ∀ e, es1[j]? = some e → H t = some (.tup [.ref e, v])) (fun H r => SqT.of (r _ _ h1))
      (fun _ _ _ _ _ r ⟨t, e, h⟩ => ⟨t, e, fun x hx => r _ _ (h x hx)⟩) (fun j y Hc acc o r hDa ⟨t, e, h⟩ => ⟨t, e, fun x hx => by rw [upd_ne (ne_of (h x hx) hDa (by intro h; cases h))]; exact h x hx⟩) (fun j x H6 H7 acc R hj r hDa hy hR => ?_) (fun zs H6 hlz hgz r1 hD1s => ?_)
    · obtain ⟨rfl, e⟩ := hy
      rw [List.getElem?_map] at e
      cases ej : es1[j]? with
      | none => rw [ej] at e; cases e
      | some a =>
        rw [ej] at e; cases e
        obtain ⟨i, hi, hxv⟩ := a1.at ej
        have hi10 : i = 13 ∨ i = 14 ∨ i = 20 := by
          have := List.mem_of_getElem? hi
          revert this
          show i ∈ [13, 14, 20] → _
          intro h
          simp at h
          exact h
        refine ⟨rfl, ?_⟩
        refine ⟨_, rfl, _, rfl, a, _, v, rfl, (kl.nf i hi10).1, (kl.nf i hi10).2, hxv.same r, by show 2 ≤ sizeLine; decide, fun t ht => ?_⟩
        exact hR _ _ (sm_new ht) ⟨t, rfl, fun e he => by rw [ej] at he; cases he; exact upd_same⟩
    rw [List.length_map] at hlz
    have pl1 := pl_of (ix := [13, 14, 20]) hlz hl1 hD1s hgz (a1.same r1).exd
    refine gn1 ?_
    have s46 := s1.trans r1
    have hD6 := s46 _ _ hDs
    refine ⟨_, rfl, _, rfl, D, D1, _, _, rfl, rfl, hD6, hD1s, by rw [hly, hlz, hl1]; decide, fun q hq => ?_⟩
    have sq : Same H6 (upd H6 q (.lst (ys ++ zs))) := sm_new hq
    have pl2 := (pl0.same s46).append pl1 sq hD6 hD1s upd_same
    have hq2 : (upd H6 q (.lst (ys ++ zs))) q = some (.lst (ys ++ zs)) := upd_same
    generalize upd H6 q (.lst (ys ++ zs)) = H8 at sq pl2 hq2 ⊢
    refine ⟨_, rfl, v, rfl, fun m H9 s9 n9 pl3 => ?_⟩
    obtain ⟨ws, hws, hwl⟩ : ∃ ws, H9 m = some (.lst ws) ∧ ws.length = 1 := by
      obtain ⟨ts, es, h1, h2, h3, _⟩ := pl3
      exact ⟨_, h3, by rw [List.length_map]; exact h1⟩
    refine ⟨q, m, _, _, rfl, rfl, s9 _ _ hq2, hws, by rw [List.length_append, hly, hlz, hl1, hwl]; decide, fun u hu => ?_⟩
    have sA := (((s04.trans s46).trans sq).trans s9)
    exact k u _ (sA.trans (sm_new hu)) (same_new sA hu) ((pl2.same s9).append pl3 (sm_new hu) (s9 _ _ hq2) hws upd_same)
end
end Toy
set_option maxHeartbeats 4000000
namespace LX
open PySem PySem.Spec PyProof.Rows L2 C8 SX
section
variable {X : Cx}
theorem count_flat {y : V} {u : Value} (fy : flatV y = true) (ry : RelV y u) : ∀ {ys : List V} {us : List Value}, Vals ys us → ys.all flatV = true → us.countP (eqU y) = ys.countP fun z => eqV z y
  | _, _, .nil, _ => rfl
  | z :: zs, w :: ws, .cons h r, f => by
    rw [List.all_cons, Bool.and_eq_true] at f
    rw [List.countP_cons, List.countP_cons, count_flat fy ry r f.2, eqU_of h f.1]
def rCntF (K : PySem.W.Frag) : V → List V → Hp → VK → Prop := fun x xs H Q => ∃ (a : Addr) (ys : List V) (y : V), x = .ref a ∧ xs = [y] ∧ SqL K H a ys ∧ flatV y = true ∧ ys.all flatV = true ∧ Q (.int (ys.countP fun z => eqV z y : Nat)) H
theorem mt_countF : MtR X "list.count" (rCntF X.K) := by
  intro pins s σ H x xs v us Q I rx rxs h
  obtain ⟨a, ys, y, rfl, rfl, hs, fy, fys, q⟩ := h
  cases rx
  cases rxs with
  | cons ry rt =>
    rename_i uy ut
    cases rt
    obtain ⟨its, rv, ⟨⟨cls, dd, data, sl⟩, n, ho, hc, hdn, hd⟩, hlen⟩ := I.list hs
    simp only at hc hd
    subst hc hd
    refine call_meets PySem.F.slot_list_count ⟨_, ho, rfl⟩ PySem.F.entry_list_count (PySem.F.args_list_count_2 _ _)
      (SeqAt.list_countAt a its.toArray n dd sl uy (eqU y)) ⟨ho, fun u' hu' => mem_eqAt ry fy rv fys u' (by simpa using hu'), ?_⟩
    have ec : its.toArray.toList.countP (eqU y) = ys.countP fun z => eqV z y := count_flat fy ry rv fys
    refine ⟨.int (ys.countP fun z => eqV z y : Nat), H, I.tok _, ⟨s.toks, ?_⟩, q⟩
    show Value.int ((its.toArray.toList.countP (eqU y) : Nat) : Int) s.toks = Value.int ((ys.countP fun z => eqV z y : Nat) : Int) s.toks
    rw [ec]
theorem pe_bmK {T name id : String} {r : V → List V → Hp → VK → Prop} {o e : Expr} {es : List Expr} {to : TE} {t : TA} {apos cpos : Pos} (K : PySem.W.Frag) (pa : PlainAttrs T) (slot : Slot T name id) (hty : typeOf (.builtin id) = pure (.type "method_descriptor")) (hm : MtR X id r) (ho : PE X o to) (ha : PA X (e :: es) t)
    (hK : X.K = K := by rfl) (hbase : attributeBase o name X.env (eval o X.env) = eval o X.env := by rfl)
    (hfew : ((backTo cpos (starEach (e :: es) X.env)).all (fun x => !x.1) && (backToKw cpos (keywordEach [] X.env)).all (fun x => x.1.isSome)
      && decide ((e :: es).length + ([] : List Keyword).length + (if ([] : List Keyword).isEmpty then 0 else 1) < 30)) = true := by rfl)
    (hline : (apos.endLine == cpos.line) = true := by rfl) (hs : starEach (e :: es) X.env = (false, eval e X.env) :: starEach es X.env := by rfl) (hplain : (backTo cpos (starEach es X.env)).any (·.1) = false := by rfl) :
    PE X (.Call (.Attribute o name apos) (e :: es) [] cpos) (tBM K T r to t) := by
  subst hK; exact pe_bm pa slot hty hm ho ha hbase hfew hline hs hplain
theorem mt_countFK (K : PySem.W.Frag) (h : X.K = K := by rfl) : MtR X "list.count" (rCntF K) := by subst h; exact mt_countF
theorem mt_indexFK (K : PySem.W.Frag) (h : X.K = K := by rfl) : MtR X "list.index" (rIndex K) := by subst h; exact mt_index
end
end LX
set_option maxHeartbeats 2000000
namespace Toy
open PySem L2 C8 SX LX
local macro_rules | `(tactic| walk_at "c") => `(tactic| refine And.intro (by first | (show (0 : Int) < _; omega) | exact Or.inr ⟨by decide, by decide⟩ | exact Or.inl ⟨by decide, by decide⟩ | (exact ⟨by omega, by omega⟩)) ?_)
local macro_rules | `(tactic| walk_at "s1") => `(tactic| first | refine ⟨_, rfl, ?_⟩ | refine ⟨_, _, rfl, rfl, ?_⟩ | refine .inl ⟨_, rfl, ?_⟩ | walk_at "c")
local macro_rules | `(tactic| walk_at "ix") => `(tactic| refine ⟨_, _, _, _, rfl, rfl, SqL.of (by first | assumption | exact upd_same), rfl, ?_⟩)
local macro_rules | `(tactic| walk_at "s") => `(tactic| repeat (walk_at "s1"))
structure XV (K : PySem.W.Frag) (mg : Str → Option Value) (n : Str) (C : Addr) : Prop where
  q : PySem.W.excIn K C veT "ValueError.__new__" = true
  g : mg n = some (.ref C)
  k : PySem.W.keepIn K (.ref C) = true
theorem kd_flat (i : Nat) : (kd i).all flatV = true := by
  unfold kd; rw [List.all_map]; exact List.all_eq_true.mpr fun _ _ => rfl
theorem kd_count : ∀ i, i < 22 → (kd i).countP (fun z => eqV z (.bl true)) = 1 := by decide +kernel
theorem kd_at : ∀ i, i < 10 → (kd i)[i]? = some (.bl true) ∧ ∀ m z, m < i → (kd i)[m]? = some z → eqV z (.bl true) = false := by
  intro i hi
  refine ⟨?_, fun m z hm hz => ?_⟩
  · unfold kd; rw [List.getElem?_map, List.getElem?_range (by omega)]
    show some (V.bl (decide (i = i))) = _
    rw [decide_eq_true rfl]
  · unfold kd at hz; rw [List.getElem?_map, List.getElem?_range (by omega)] at hz
    obtain rfl := Option.some.inj hz
    show eqV (V.bl (decide (i = m))) (.bl true) = false
    rw [decide_eq_false (show ¬ i = m by omega)]; rfl
theorem ne_of_none2 : True := trivial
theorem PL.get {cs : List Addr} {H : Hp} {p : Addr} {v : V} {ix : List Nat} (h : PL cs H p v ix) : ∃ ts : List Addr, ts.length = ix.length ∧ H p = some (.lst (ts.map V.ref)) ∧ ∀ (k : Nat) (t : Addr), ts[k]? = some t → ∃ (e : Addr) (i : Nat), ix[k]? = some i ∧ H t = some (.tup [.ref e, v]) ∧ ExD H e (cs.getD i 0) := by
  obtain ⟨ts, es, h1, h2, h3, h4⟩ := h
  refine ⟨ts, h1, h3, fun k t ht => ?_⟩
  have hk : k < ts.length := (List.getElem?_eq_some_iff.mp ht).1
  have he : es[k]? = some es[k] := List.getElem?_eq_getElem (by omega)
  have hi : ix[k]? = some ix[k] := List.getElem?_eq_getElem (by omega)
  exact ⟨es[k], ix[k], hi, h4 k t _ _ ht he hi⟩
section
variable {P : Program} {w : World} {K : PySem.W.Frag} {mg : Str → Option Value} {base : Heap} {C_InvalidReader C_InvalidChange C_InvalidHouse C_InvalidCondition C_InvalidSaying C_InvalidSight C_InvalidCount C_InvalidSum C_InvalidRules C_InvalidBook C_InvalidTerm C_InvalidText C_Refused C_Bound C_NoRow C_InvalidRow C_InvalidLot C_InvalidWord C_InvalidCommand C_Mismatch C_NoName C_NoMark C_RowError : Addr}
abbrev s_law : Stmt := top 33
abbrev n_law : List Str := ["script", "k", "box", "value", "held", "one", "kept", "is_key", "some", "bare"]
theorem sc_law : FnScope n_law ["script"] (fnScope s_law) := fnScope_by (by decide +kernel)
def spLaw (K : PySem.W.Frag) : Sp := fun vs H Q _ => ∃ (a : Addr) (ns : List Int), vs = [.ref a] ∧ SqL K H a (ns.map V.int) ∧ ns.length ≤ 63 ∧ ∀ H', Q (.bl true) H'
theorem ok_law (T : BT mg) (kl : KL K [C_InvalidReader, C_InvalidChange, C_InvalidHouse, C_InvalidCondition, C_InvalidSaying, C_InvalidSight, C_InvalidCount, C_InvalidSum, C_InvalidRules, C_InvalidBook, C_InvalidTerm, C_InvalidText, C_Refused, C_Bound, C_NoRow, C_InvalidRow, C_InvalidLot, C_InvalidWord, C_InvalidCommand, C_Mismatch, C_NoName, C_NoMark] C_RowError) (m_KeyError : mg "KeyError" = none) (m_ValueError : mg "ValueError" = none) (x_RowError : XG mg "RowError" C_RowError) (x_InvalidRow : XV K mg "InvalidRow" C_InvalidRow) (x_InvalidLot : XV K mg "InvalidLot" C_InvalidLot) (x_InvalidWord : XV K mg "InvalidWord" C_InvalidWord) (x_InvalidCommand : XV K mg "InvalidCommand" C_InvalidCommand) (x_Mismatch : XV K mg "Mismatch" C_Mismatch)
  (c_seed : Cal P w K mg base 1 "_law_seed" (spSeed K) []) (c_any : Cal P w K mg base 8 "_law_any" (spAny K 5) []) (c_words : Cal P w K mg base 3 "_law_words" (spWords [C_InvalidReader, C_InvalidChange, C_InvalidHouse, C_InvalidCondition, C_InvalidSaying, C_InvalidSight, C_InvalidCount, C_InvalidSum, C_InvalidRules, C_InvalidBook, C_InvalidTerm, C_InvalidText, C_Refused, C_Bound, C_NoRow, C_InvalidRow, C_InvalidLot, C_InvalidWord, C_InvalidCommand, C_Mismatch, C_NoName, C_NoMark]) []) (c_others : Cal P w K mg base 4 "_law_others" (spOthers [C_InvalidReader, C_InvalidChange, C_InvalidHouse, C_InvalidCondition, C_InvalidSaying, C_InvalidSight, C_InvalidCount, C_InvalidSum, C_InvalidRules, C_InvalidBook, C_InvalidTerm, C_InvalidText, C_Refused, C_Bound, C_NoRow, C_InvalidRow, C_InvalidLot, C_InvalidWord, C_InvalidCommand, C_Mismatch, C_NoName, C_NoMark]) []) (c_kinds : Cal P w K mg base 1 "_law_kinds" (spKinds K [C_InvalidReader, C_InvalidChange, C_InvalidHouse, C_InvalidCondition, C_InvalidSaying, C_InvalidSight, C_InvalidCount, C_InvalidSum, C_InvalidRules, C_InvalidBook, C_InvalidTerm, C_InvalidText, C_Refused, C_Bound, C_NoRow, C_InvalidRow, C_InvalidLot, C_InvalidWord, C_InvalidCommand, C_Mismatch, C_NoName, C_NoMark]) [])
  {f : Addr} {fd : FuncData} (F : Def K mg "law" s_law f fd) : FnG P w K mg base 9 f fd ["script"] (spLaw K) := by
  refine fnG0 F.fn sc_law (fun vs H Q E h => ?_) (fun cdv A outer s H vs Q E gd hr h => ?_)
  · obtain ⟨a, ns, rfl, _⟩ := h; rfl
  · obtain ⟨a, ns, rfl, ha, hl, kk⟩ := h
    refine ⟨_, (pss_cons (ps_for PassesOwn.never rfl (pi_range1 (by rfl) T.m_range (pa_cons (pe_callB (call_max2 rfl) (by rfl) T.m_max PyProof.Rows.boot_max (pa_cons pe_int (pa_cons (pe_callB (call_min2 rfl) (by rfl) T.m_min PyProof.Rows.boot_min (pa_cons pe_int (pa_cons (pe_callB (lenK K) (by rfl) T.m_len PySem.boot_len (pa_cons (pv 0) pa_nil)) pa_nil))) pa_nil))) pa_nil)) (pg_name (i := 1) sc_law.nd rfl (.inl rfl)) 
        (pss_cons (ps_set (i := 2) sc_law.nd rfl (.inl rfl) (pe_c c_seed hr (by first | decide | omega) (by rfl) (pa_cons (pv 0) (pa_cons (pv 1) pa_nil))))
        (pss_cons (ps_par (i := 3) (j := 4) rfl sc_law.nd rfl rfl (by decide) rfl rfl (pa_cons (pe_c c_any hr (by first | decide | omega) (by rfl) (pa_cons (pv 2) (pa_cons pe_int pa_nil))) (pa_cons (pe_lst (pa_cons pe_int pa_nil)) pa_nil)) rfl)
        (pss_cons (ps_for PassesOwn.never rfl (pi_list (pe_op op_cat (pe_c c_words hr (by first | decide | omega) (by rfl) (pa_cons (pv 3) pa_nil)) (pe_c c_others hr (by first | decide | omega) (by rfl) (pa_cons (pv 3) pa_nil)))) (tupK K 2 (pgs_cons (pg_name (i := 5) sc_law.nd rfl (.inl rfl)) (pgs_cons (pg_name (i := 6) sc_law.nd rfl (.inl rfl)) pgs_nil))) 
          (pss_cons (ps_if (PW.pt (pw_or (pt_cmpR op_ne (pe_callB (call_reprV gd hr K) (by rfl) T.m_repr PyProof.Rows.boot_repr (pa_cons (pv 6) pa_nil)) (pe_callB (call_reprV gd hr K) (by rfl) T.m_repr PyProof.Rows.boot_repr (pa_cons (pv 3) pa_nil)) (nomark _)) (pw_or1 (pt_cmpR op_gt (pe_bmK K PySem.F.plainAttrs_list PySem.F.slot_list_count PySem.F.type_list_count (mt_countFK K) (pe_c c_kinds hr (by first | decide | omega) (by rfl) (pa_cons (pv 5) pa_nil)) (pa_cons pe_bl pa_nil)) pe_int (nomark _))))) 
            (pss_one (ps_ret pe_bl)
            )
           pss_nil)
          (pss_cons (ps_set (i := 7) sc_law.nd rfl (.inl rfl) (pe_callB (call_isVK K) (by rfl) T.m_isinstance PyProof.Rows.boot_isinstance (pa_cons (pv 5) (pa_cons (pe_bltn (v := .ty "KeyError") (by rfl) m_KeyError (by decide +kernel) rfl) pa_nil))))
          (pss_one (ps_if (PW.pt (pw_or (pt_cmpR op_eq (pe_callB (call_isVK K) (by rfl) T.m_isinstance PyProof.Rows.boot_isinstance (pa_cons (pv 5) (pa_cons (pe_glob (v := .ref C_RowError) (by rfl) x_RowError.g rfl) pa_nil))) (pv 7) (nomark _)) (pw_or1 (pt_cmpR op_eq (pe_callB (call_isVK K) (by rfl) T.m_isinstance PyProof.Rows.boot_isinstance (pa_cons (pv 5) (pa_cons (pe_bltn (v := .ty "ValueError") (by rfl) m_ValueError (by decide +kernel) rfl) pa_nil))) (pv 7) (nomark _))))) 
            (pss_one (ps_ret pe_bl)
            )
           pss_nil)
          ))))
        (pss_cons (ps_set (i := 8) sc_law.nd rfl (.inl rfl) (pe_op op_cat (pe_c c_words hr (by first | decide | omega) (by rfl) (pa_cons (pv 4) pa_nil)) (pe_c c_others hr (by first | decide | omega) (by rfl) (pa_cons (pv 4) pa_nil))))
        (pss_cons (ps_expr (pe_bm PySem.F.plainAttrs_list PySem.F.slot_list_append PySem.F.type_list_append mt_append (pv 4) (pa_cons pe_int pa_nil)))
        (pss_one (ps_if (pt_cmpR (op_neE hr) (pe_lc (own := [("one", 5), ("kept", 6)]) rfl sc_law.nd (pi_list (pv 8)) (blkOk_by (N := n_law) (sc := fnScope s_law) (by decide +kernel)) (fun _ _ _ _ _ => (tupK K 2 (pgs_cons (pg_name (i := 5) sc_law.nd rfl (.inl rfl)) (pgs_cons (pg_name (i := 6) sc_law.nd rfl (.inl rfl)) pgs_nil)))) (fun _ _ _ _ _ => pts_one (pt_cmpR (op_neDK K hr) (pv 6) (pe_lst (pa_cons pe_int (pa_cons pe_int pa_nil))) (nomark _))) (fun _ _ _ _ _ => pe_int)) (pe_lst pa_nil) (nomark _)) 
          (pss_one (ps_ret pe_bl)
          )
         pss_nil)
        )))))))
      (pss_cons (ps_set (i := 9) sc_law.nd rfl (.inl rfl) (pe_lst (pa_cons (pe_exc0 PySem.F.excBase_ValueError x_InvalidRow.q x_InvalidRow.g x_InvalidRow.k (by rfl)) (pa_cons (pe_exc0 PySem.F.excBase_ValueError x_InvalidLot.q x_InvalidLot.g x_InvalidLot.k (by rfl)) (pa_cons (pe_exc0 PySem.F.excBase_ValueError x_InvalidWord.q x_InvalidWord.g x_InvalidWord.k (by rfl)) (pa_cons (pe_exc0 PySem.F.excBase_ValueError x_InvalidCommand.q x_InvalidCommand.g x_InvalidCommand.k (by rfl)) (pa_cons (pe_exc0 PySem.F.excBase_ValueError x_Mismatch.q x_Mismatch.g x_Mismatch.k (by rfl)) pa_nil)))))))
      (pss_cons (ps_if (pt_cmpR (op_neE hr) (pe_lc (own := [("one", 5)]) rfl sc_law.nd (pi_list (pv 9)) (blkOk_by (N := n_law) (sc := fnScope s_law) (by decide +kernel)) (fun _ _ _ _ _ => (pg_name (i := 5) sc_law.nd rfl (.inl rfl))) (fun _ _ _ _ _ => pts_one (PW.pt (pw_or (pt_not (pt_val (pe_callB (call_isVK K) (by rfl) T.m_isinstance PyProof.Rows.boot_isinstance (pa_cons (pv 5) (pa_cons (pe_glob (v := .ref C_RowError) (by rfl) x_RowError.g rfl) pa_nil))))) (pw_or1 (pt_cmpR op_ne (pe_bmK K PySem.F.plainAttrs_list PySem.F.slot_list_count PySem.F.type_list_count (mt_countFK K) (pe_c c_kinds hr (by first | decide | omega) (by rfl) (pa_cons (pv 5) pa_nil)) (pa_cons pe_bl pa_nil)) pe_int (nomark _)))))) (fun _ _ _ _ _ => pe_int)) (pe_lst pa_nil) (nomark _)) 
        (pss_one (ps_ret pe_bl)
        )
       pss_nil)
      (pss_one (ps_ret (pe_cmpR (op_eqDK K hr) (pe_lc (own := [("one", 5), ("kept", 6)]) rfl sc_law.nd (pi_list (pe_c c_words hr (by first | decide | omega) (by rfl) (pa_cons pe_int pa_nil))) (blkOk_by (N := n_law) (sc := fnScope s_law) (by decide +kernel)) (fun _ _ _ _ _ => (tupK K 2 (pgs_cons (pg_name (i := 5) sc_law.nd rfl (.inl rfl)) (pgs_cons (pg_name (i := 6) sc_law.nd rfl (.inl rfl)) pgs_nil)))) (fun _ _ _ _ _ => pts_nil) (fun _ _ _ _ _ => (pe_bmK K PySem.F.plainAttrs_list PySem.F.slot_list_index PySem.F.type_list_index (mt_indexFK K) (pe_c c_kinds hr (by first | decide | omega) (by rfl) (pa_cons (pv 5) pa_nil)) (pa_cons pe_bl pa_nil)))) (pe_listRg rfl (by rfl) T.m_list (prg_1 (by rfl) T.m_range pe_int)) (nomark _)))
      )))), ?_⟩
    refine ⟨_, rfl, a, _, rfl, .inl ha, _, _, rfl, _, _, rfl, _, rfl, ?_⟩
    rw [List.length_map]
    have hM : 0 ≤ (if (if (ns.length : Int) < 3 then (ns.length : Int) else 3) > 1 then (if (ns.length : Int) < 3 then (ns.length : Int) else 3) else 1) ∧ (if (if (ns.length : Int) < 3 then (ns.length : Int) else 3) > 1 then (if (ns.length : Int) < 3 then (ns.length : Int) else 3) else 1) ≤ 3 := by
      split <;> split <;> omega
    generalize (if (if (ns.length : Int) < 3 then (ns.length : Int) else 3) > 1 then (if (ns.length : Int) < 3 then (ns.length : Int) else 3) else 1) = M at hM ⊢
    refine ⟨by omega, by omega, ?_⟩
    refine for_it (walk_range (lo := 0)) (fun i σ H' => (∃ s1 s2 s3 s4 s5 s6 s7 s8 s9 : Option V, σ = [some (.ref a), s1, s2, s3, s4, s5, s6, s7, s8, s9]) ∧ Same H H')
      ⟨⟨_, _, _, _, _, _, _, _, _, rfl⟩, Same.refl _⟩ (fun _ _ _ _ _ => trivial) ?_ ?_
    · rintro i x σ H1 H1' hi ⟨⟨s1, s2, s3, s4, s5, s6, s7, s8, s9, rfl⟩, e1⟩ ⟨rfl, rfl⟩
      clear hi hM
      refine ⟨_, rfl, _, rfl, a, i, ns, by show [V.ref a, V.int (0 + (i : Int))] = _; rw [Int.zero_add], e1.seq ha, hl, fun b H2 h2 nb hB => ?_⟩
      have lb : Liv [b] H2 := fun c hc => by rw [List.mem_singleton.mp hc]; obtain ⟨o, h, _⟩ := hB; rw [h]; exact fun z => nomatch z
      refine ⟨_, rfl, 4, by decide, b, [b], rfl, hB, List.mem_singleton.mpr rfl, lb, fun v d H3 hB3 hd hf hrb => ?_⟩
      refine ⟨by show 1 ≤ sizeLine; decide, fun p hp => ⟨_, _, rfl, ?_⟩⟩
      have hp4 : (upd H3 p (.lst [V.int 1])) p = some (.lst [V.int 1]) := upd_same
      have s4 : Same H3 (upd H3 p (.lst [V.int 1])) := sm_new hp
      generalize upd H3 p (.lst [V.int 1]) = H4 at hp4 s4 ⊢
      have e4 : Same H H4 := fun c o e => s4 _ _ (hB3.1 _ _ (ne_of_none (e1 _ _ e) nb) (h2 _ _ (e1 _ _ e)))
      have hd4 : Dp K H4 v d := dp_same (wo_sub.trans s4) _ _ hd
      refine ⟨_, rfl, v, rfl, fun q1 H5 s5 n5 pl5 => ⟨_, rfl, v, rfl, fun q2 H6 s6 n6 pl6 => ?_⟩⟩
      obtain ⟨ts1, l1, g1, t1⟩ := pl5.get
      obtain ⟨ts2, l2, g2, t2⟩ := pl6.get
      refine ⟨q1, q2, _, _, rfl, rfl, s6 _ _ g1, g2, by rw [List.length_map, List.length_map, l1, l2]; decide, fun r hr1 => ?_⟩
      have hrr : (upd H6 r (.lst (ts1.map V.ref ++ ts2.map V.ref))) r = some (.lst ((ts1 ++ ts2).map V.ref)) := by rw [List.map_append]; exact upd_same
      have s7 : Same H6 (upd H6 r (.lst (ts1.map V.ref ++ ts2.map V.ref))) := sm_new hr1
      have pl7 := (pl5.same s6).append pl6 s7 (s6 _ _ g1) g2 upd_same
      generalize upd H6 r (.lst (ts1.map V.ref ++ ts2.map V.ref)) = H7 at hrr s7 pl7 ⊢
      have e47 : Same H4 H7 := (s5.trans s6).trans s7
      have hd7 : Dp K H7 v d := dp_same e47 _ _ hd4
      obtain ⟨ts, lt, gt, tt⟩ := pl7.get
      rw [hrr] at gt; rw [Option.some.inj gt] at hrr
      refine ⟨r, rfl, ⟨_, SqL.of hrr⟩, ?_⟩
      refine for_it (walk_list (K := K) (a := r) (xs := ts.map V.ref)) (fun j σ H' => (∃ s5 s6 s7 s8 s9 : Option V, σ = [some (.ref a), some (.int (0 + (i : Int))), some (.ref b), some v, some (.ref p), s5, s6, s7, s8, s9]) ∧ Same H7 H')
        ⟨⟨_, _, _, _, _, rfl⟩, Same.refl _⟩ (fun _ _ _ _ h => SqL.of (h.2 _ _ hrr)) ?_ ?_
      · rintro j x σ H8x H8 hj ⟨⟨s5, s6, s7, s8, s9, rfl⟩, e8⟩ hy
        obtain ⟨rfl, ex⟩ := hy
        rw [List.getElem?_map] at ex
        cases et : ts[j]? with
        | none => rw [et] at ex; cases ex
        | some t =>
        rw [et] at ex; cases ex
        obtain ⟨e, ci, hci, ht, hxd⟩ := tt j t et
        have hci22 : ci < 22 := by
          have := List.mem_of_getElem? hci
          revert this
          show ci ∈ [0, 1, 2, 3, 4, 5, 6, 7, 8, 9, 10, 10, 11, 12, 13, 14, 20, 21] → _
          intro h
          simp at h
          omega
        have hd8 : Dp K H8 v d := dp_same e8 _ _ hd7
        have hx8 := hxd.same e8
        refine ⟨_, _, rfl, SqT.of (e8 _ _ ht), rfl, ?_⟩
        refine ⟨_, _, rfl, _, _, rfl, rfl, ?_⟩
        refine ⟨_, rfl, v, d, _, _, rfl, hd8, hf, by decide, by decide, hrb, _, rfl, v, d, _, _, rfl, hd8, hf, by decide, by decide, hrb, rfl, _, rfl, iteN (by simp) ?_⟩
        refine ⟨_, rfl, e, ci, rfl, hci22, hx8, fun pk H9 s9 n9 hk9 => ?_⟩
        refine ⟨.inl ⟨rfl, _, SqL.of hk9⟩, pk, kd ci, .bl true, rfl, rfl, SqL.of hk9, rfl, kd_flat ci, _, _, rfl, rfl, _, rfl, iteN (by rw [kd_count ci hci22]; rfl) ?_⟩
        have hx9 := hx8.same s9
        refine ⟨_, rfl, _, e, _, _, _, kl.exc ci hci22, rfl, (fun u hu => hu), kl.key ci hci22, hx9, ?_⟩
        refine ⟨_, rfl, _, e, _, _, _, kl.exc ci hci22, rfl, (fun u hu => hu), kl.row ci hci22, hx9, _, rfl, rfl, _, rfl, iteN (decide_eq_false (fun h => by have := V.bl.inj h; rw [decide_eq_decide] at this; omega)) ?_⟩
        refine ⟨_, rfl, _, e, _, _, _, kl.exc ci hci22, rfl, (fun u hu => hu), kl.val ci hci22, hx9, _, rfl, rfl, _, rfl, iteN (decide_eq_false (fun h => by have := V.bl.inj h; rw [decide_eq_decide] at this; omega)) ?_⟩
        exact ⟨⟨_, _, _, _, _, rfl⟩, e8.trans s9⟩
      rintro σ H8 ⟨⟨s5, s6, s7, s8, s9, rfl⟩, e8⟩
      clear tt hrr pl7 t1 t2
      have e48 := e47.trans e8
      have hp8 := e48 _ _ hp4
      refine ⟨_, rfl, .ref p, rfl, fun q1 H9 s9 n9 pl9 => ⟨_, rfl, .ref p, rfl, fun q2 H10 s10 n10 pl10 => ?_⟩⟩
      obtain ⟨ts1, l1, g1, t1⟩ := pl9.get
      obtain ⟨ts2, l2, g2, t2⟩ := pl10.get
      refine ⟨q1, q2, _, _, rfl, rfl, s10 _ _ g1, g2, by rw [List.length_map, List.length_map, l1, l2]; decide, fun r hr1 => ?_⟩
      have hrr : (upd H10 r (.lst (ts1.map V.ref ++ ts2.map V.ref))) r = some (.lst ((ts1 ++ ts2).map V.ref)) := by rw [List.map_append]; exact upd_same
      have s11 : Same H10 (upd H10 r (.lst (ts1.map V.ref ++ ts2.map V.ref))) := sm_new hr1
      have pl11 := (pl9.same s10).append pl10 s11 (s10 _ _ g1) g2 upd_same
      have hp10 := s10 _ _ (s9 _ _ hp8)
      have npr : r ≠ p := (ne_of_none hp10 hr1).symm
      generalize upd H10 r (.lst (ts1.map V.ref ++ ts2.map V.ref)) = H11 at hrr s11 pl11 ⊢
      have hp11 := s11 _ _ hp10
      obtain ⟨ts, lt, gt, tt⟩ := pl11.get
      rw [hrr] at gt; rw [Option.some.inj gt] at hrr
      refine ⟨_, rfl, .inl ⟨rfl, _, SqL.of hp11⟩, p, _, _, rfl, rfl, hp11, by show 1 < sizeLine; decide, ?_⟩
      have eH11 : Same H H11 := ((((e4.trans e48).trans s9).trans s10).trans s11)
      have hnp : ∀ c o, H c = some o → c ≠ p := fun c o h => ne_of_none (hB3.1 _ _ (ne_of_none (e1 _ _ h) nb) (h2 _ _ (e1 _ _ h))) hp
      have hp12 : (upd H11 p (.lst ([V.int 1] ++ [V.int 2]))) p = some (.lst [V.int 1, V.int 2]) := upd_same
      have hr12 : (upd H11 p (.lst ([V.int 1] ++ [V.int 2]))) r = some (.lst (ts.map V.ref)) := by rw [upd_ne npr]; exact hrr
      have ht12 : ∀ (k : Nat) (t : Addr), ts[k]? = some t → ∃ e, (upd H11 p (.lst ([V.int 1] ++ [V.int 2]))) t = some (.tup [.ref e, .ref p]) := fun k t h => by
        obtain ⟨e, _, _, h2, _⟩ := tt k t h
        refine ⟨e, ?_⟩
        rw [upd_ne (fun z => by rw [z, hp11] at h2; cases h2)]
        exact h2
      have eH12 : Same H (upd H11 p (.lst ([V.int 1] ++ [V.int 2]))) := fun c o h => by rw [upd_ne (hnp c o h)]; exact eH11 _ _ h
      generalize upd H11 p (.lst ([V.int 1] ++ [V.int 2])) = H12 at hp12 hr12 ht12 eH12 ⊢
      refine ⟨_, rfl, r, rfl, ⟨_, SqL.of hr12⟩, fun D hD => ?_⟩
      refine lc_keepF keep_same (walk_list (K := K) (a := r) (xs := ts.map V.ref)) hD (by rw [List.length_map, lt]; decide) (fun _ => false) (fun _ _ _ => True) (fun H r => SqL.of (r _ _ hr12)) (fun _ _ _ _ _ _ _ => trivial) (fun _ _ _ _ _ _ _ _ => trivial) (fun j x Hx Hy acc N R hj sx hDa hy hR hN => ?_) (fun ys Hz hly hg sz hDs => ?_)
      · obtain ⟨rfl, ex⟩ := hy
        rw [List.getElem?_map] at ex
        cases et : ts[j]? with
        | none => rw [et] at ex; cases ex
        | some t =>
        rw [et] at ex; cases ex
        obtain ⟨e, ht⟩ := ht12 j t et
        refine ⟨_, _, rfl, SqT.of (sx _ _ ht), rfl, ?_⟩
        refine ⟨_, _, rfl, _, _, rfl, rfl, ⟨rfl, ?_⟩⟩
        refine ⟨_, rfl, by show 2 ≤ sizeLine; decide, fun p2 hp2 => ⟨.list [.int 1, .int 2], .list [.int 1, .int 2], .lst (SqL.of (sm_new hp2 _ _ (sx _ _ hp12))) (.cons (.int 1) (.cons (.int 2) .nil)), .lst (SqL.of upd_same) (.cons (.int 1) (.cons (.int 2) .nil)), by decide, by decide, _, rfl, iteN (by decide) (hN rfl _ (sm_new hp2))⟩⟩
      · have hl0 : ys = [] := by
          refine List.eq_nil_of_length_eq_zero (hly.trans ?_)
          unfold takenN
          rw [List.filter_eq_nil_iff.mpr (fun _ _ => Bool.false_ne_true)]; rfl
        subst hl0
        refine ⟨by show 0 ≤ sizeLine; decide, fun p3 hp3 => ⟨D, p3, [], rfl, rfl, sm_new hp3 _ _ hDs, upd_same, _, rfl, iteN rfl ?_⟩⟩
        exact ⟨⟨_, _, _, _, _, _, _, _, _, rfl⟩, (eH12.trans sz).trans (sm_new hp3)⟩
    rintro σ H1 ⟨⟨s1, s2, s3, s4, s5, s6, s7, s8, s9, rfl⟩, e1⟩
    refine fun b1 g1 b2 g2 b3 g3 b4 g4 b5 g5 => ⟨by show 5 ≤ sizeLine; decide, fun p hp => ?_⟩
    have x1 : ExD (upd (upd (upd (upd (upd (upd H1 b1 (ExO (.ref C_InvalidRow) b1)) b2 (ExO (.ref C_InvalidLot) b2)) b3 (ExO (.ref C_InvalidWord) b3)) b4 (ExO (.ref C_InvalidCommand) b4)) b5 (ExO (.ref C_Mismatch) b5)) p (.lst [V.ref b1, V.ref b2, V.ref b3, V.ref b4, V.ref b5])) b1 C_InvalidRow := .inr (((sm_new g2).trans ((sm_new g3).trans ((sm_new g4).trans ((sm_new g5).trans (sm_new hp))))) _ _ upd_same)
    have x2 : ExD (upd (upd (upd (upd (upd (upd H1 b1 (ExO (.ref C_InvalidRow) b1)) b2 (ExO (.ref C_InvalidLot) b2)) b3 (ExO (.ref C_InvalidWord) b3)) b4 (ExO (.ref C_InvalidCommand) b4)) b5 (ExO (.ref C_Mismatch) b5)) p (.lst [V.ref b1, V.ref b2, V.ref b3, V.ref b4, V.ref b5])) b2 C_InvalidLot := .inr (((sm_new g3).trans ((sm_new g4).trans ((sm_new g5).trans (sm_new hp)))) _ _ upd_same)
    have x3 : ExD (upd (upd (upd (upd (upd (upd H1 b1 (ExO (.ref C_InvalidRow) b1)) b2 (ExO (.ref C_InvalidLot) b2)) b3 (ExO (.ref C_InvalidWord) b3)) b4 (ExO (.ref C_InvalidCommand) b4)) b5 (ExO (.ref C_Mismatch) b5)) p (.lst [V.ref b1, V.ref b2, V.ref b3, V.ref b4, V.ref b5])) b3 C_InvalidWord := .inr (((sm_new g4).trans ((sm_new g5).trans (sm_new hp))) _ _ upd_same)
    have x4 : ExD (upd (upd (upd (upd (upd (upd H1 b1 (ExO (.ref C_InvalidRow) b1)) b2 (ExO (.ref C_InvalidLot) b2)) b3 (ExO (.ref C_InvalidWord) b3)) b4 (ExO (.ref C_InvalidCommand) b4)) b5 (ExO (.ref C_Mismatch) b5)) p (.lst [V.ref b1, V.ref b2, V.ref b3, V.ref b4, V.ref b5])) b4 C_InvalidCommand := .inr (((sm_new g5).trans (sm_new hp)) _ _ upd_same)
    have x5 : ExD (upd (upd (upd (upd (upd (upd H1 b1 (ExO (.ref C_InvalidRow) b1)) b2 (ExO (.ref C_InvalidLot) b2)) b3 (ExO (.ref C_InvalidWord) b3)) b4 (ExO (.ref C_InvalidCommand) b4)) b5 (ExO (.ref C_Mismatch) b5)) p (.lst [V.ref b1, V.ref b2, V.ref b3, V.ref b4, V.ref b5])) b5 C_Mismatch := .inr ((sm_new hp) _ _ upd_same)
    have hG : (upd (upd (upd (upd (upd (upd H1 b1 (ExO (.ref C_InvalidRow) b1)) b2 (ExO (.ref C_InvalidLot) b2)) b3 (ExO (.ref C_InvalidWord) b3)) b4 (ExO (.ref C_InvalidCommand) b4)) b5 (ExO (.ref C_Mismatch) b5)) p (.lst [V.ref b1, V.ref b2, V.ref b3, V.ref b4, V.ref b5])) p = some (.lst (([b1, b2, b3, b4, b5] : List Addr).map V.ref)) := upd_same
    generalize (upd (upd (upd (upd (upd (upd H1 b1 (ExO (.ref C_InvalidRow) b1)) b2 (ExO (.ref C_InvalidLot) b2)) b3 (ExO (.ref C_InvalidWord) b3)) b4 (ExO (.ref C_InvalidCommand) b4)) b5 (ExO (.ref C_Mismatch) b5)) p (.lst [V.ref b1, V.ref b2, V.ref b3, V.ref b4, V.ref b5])) = G at x1 x2 x3 x4 x5 hG ⊢
    have hb : ∀ (j : Nat) (e : Addr), ([b1, b2, b3, b4, b5] : List Addr)[j]? = some e → ∃ ci, ci < 20 ∧ ExD G e (([C_InvalidReader, C_InvalidChange, C_InvalidHouse, C_InvalidCondition, C_InvalidSaying, C_InvalidSight, C_InvalidCount, C_InvalidSum, C_InvalidRules, C_InvalidBook, C_InvalidTerm, C_InvalidText, C_Refused, C_Bound, C_NoRow, C_InvalidRow, C_InvalidLot, C_InvalidWord, C_InvalidCommand, C_Mismatch, C_NoName, C_NoMark] : List Addr).getD ci 0) := fun j e he => by
      match j, he with
      | 0, he => cases he; exact ⟨15, by decide, x1⟩
      | 1, he => cases he; exact ⟨16, by decide, x2⟩
      | 2, he => cases he; exact ⟨17, by decide, x3⟩
      | 3, he => cases he; exact ⟨18, by decide, x4⟩
      | 4, he => cases he; exact ⟨19, by decide, x5⟩
      | k + 5, he => simp at he
    have hbl : ([b1, b2, b3, b4, b5] : List Addr).length = 5 := rfl
    generalize [b1, b2, b3, b4, b5] = bs at hG hb hbl
    refine ⟨_, rfl, p, rfl, ⟨_, SqL.of hG⟩, fun D hD => ?_⟩
    refine lc_keepF keep_same (walk_list (K := K) (a := p) (xs := bs.map V.ref)) hD (by rw [List.length_map, hbl]; decide) (fun _ => false) (fun _ _ _ => True) (fun H r => SqL.of (r _ _ hG)) (fun _ _ _ _ _ _ _ => trivial) (fun _ _ _ _ _ _ _ _ => trivial) (fun j x Hx Hy acc N R hj sx hDa hy hR hN => ?_) (fun ys Hz hly hg sz hDs => ?_)
    · obtain ⟨rfl, ex⟩ := hy
      rw [List.getElem?_map] at ex
      cases et : bs[j]? with
      | none => rw [et] at ex; cases ex
      | some e =>
      rw [et] at ex; cases ex
      obtain ⟨ci, hci, hxd⟩ := hb j e et
      have hci22 : ci < 22 := by omega
      have hx8 := hxd.same sx
      refine ⟨rfl, ?_⟩
      refine ⟨_, rfl, _, e, _, _, _, kl.exc ci hci22, rfl, (fun u hu => hu), kl.row ci hci22, hx8, _, rfl, iteN (by rw [decide_eq_true hci]; rfl) ?_⟩
      refine ⟨_, rfl, e, ci, rfl, hci22, hx8, fun pk H9 s9 n9 hk9 => ?_⟩
      exact ⟨.inl ⟨rfl, _, SqL.of hk9⟩, pk, kd ci, .bl true, rfl, rfl, SqL.of hk9, rfl, kd_flat ci, rfl, _, rfl, iteN (by rw [kd_count ci hci22]; decide) (hN rfl _ s9)⟩
    have hl0 : ys = [] := by
      refine List.eq_nil_of_length_eq_zero (hly.trans ?_)
      unfold takenN
      rw [List.filter_eq_nil_iff.mpr (fun _ _ => Bool.false_ne_true)]; rfl
    subst hl0
    refine ⟨by show 0 ≤ sizeLine; decide, fun p3 hp3 => ⟨D, p3, [], rfl, rfl, sm_new hp3 _ _ hDs, upd_same, _, rfl, iteN rfl ?_⟩⟩
    generalize upd Hz p3 (.lst []) = Hq
    refine ⟨.int 1, rfl, fun q H5 s5 n5 pl5 => ?_⟩
    obtain ⟨ts, lt, hq5, tt⟩ := pl5.get
    refine ⟨q, rfl, ⟨_, SqL.of hq5⟩, fun D1 hD1 => ?_⟩
    refine lc_keep keep_same (walk_list (K := K) (a := q) (xs := ts.map V.ref)) hD1 (by rw [List.length_map, lt]; decide) (fun j y => y = .int (j : Nat)) (fun H r => SqL.of (r _ _ hq5)) (fun j x Hx Hy R hj sx hy hR => ?_) (fun ys Hz hly hg sz hDs => ?_)
    · obtain ⟨rfl, ex⟩ := hy
      rw [List.getElem?_map] at ex
      cases et : ts[j]? with
      | none => rw [et] at ex; cases ex
      | some t =>
      rw [et] at ex; cases ex
      obtain ⟨e, ci, hci, ht, hxd⟩ := tt j t et
      have hj10 : j < 10 := by
        have := (List.getElem?_eq_some_iff.mp et).1
        rw [lt] at this; exact this
      have hcj : ci = j := by
        match j, hj10, hci with
        | 0, _, h => cases h; rfl
        | 1, _, h => cases h; rfl
        | 2, _, h => cases h; rfl
        | 3, _, h => cases h; rfl
        | 4, _, h => cases h; rfl
        | 5, _, h => cases h; rfl
        | 6, _, h => cases h; rfl
        | 7, _, h => cases h; rfl
        | 8, _, h => cases h; rfl
        | 9, _, h => cases h; rfl
      subst hcj
      refine ⟨_, _, rfl, SqT.of (sx _ _ ht), rfl, ?_⟩
      refine ⟨_, _, rfl, _, _, rfl, rfl, ⟨rfl, ?_⟩⟩
      refine ⟨_, rfl, e, ci, rfl, by omega, hxd.same sx, fun pk H9 s9 n9 hk9 => ?_⟩
      exact ⟨.inl ⟨rfl, _, SqL.of hk9⟩, pk, kd ci, .bl true, ci, .bl true, rfl, rfl, SqL.of hk9, rfl, kd_flat ci, (kd_at ci hj10).1, rfl, (kd_at ci hj10).2, hR _ _ s9 rfl⟩
    rw [List.length_map, lt] at hly
    have eys : ys = (List.range 10).map fun i => V.int (i : Nat) := by
      refine List.ext_getElem? fun k => ?_
      by_cases hk : k < 10
      · rw [List.getElem?_map, List.getElem?_range hk, List.getElem?_eq_getElem (by rw [hly]; exact hk)]
        exact congrArg some (hg k _ (List.getElem?_eq_getElem (by rw [hly]; exact hk)))
      · rw [List.getElem?_eq_none (by rw [hly]; show 10 ≤ k; omega), List.getElem?_eq_none (by rw [List.length_map, List.length_range]; omega)]
    subst eys
    have dpr : ∀ (Hh : Hp), DpAll K Hh ((List.range 10).map fun i => V.int (i : Nat)) ((List.range 10).map fun i => PyData.int (i : Nat)) := fun Hh => .cons (.int _) (.cons (.int _) (.cons (.int _) (.cons (.int _) (.cons (.int _) (.cons (.int _) (.cons (.int _) (.cons (.int _) (.cons (.int _) (.cons (.int _) .nil)))))))))
    refine ⟨10, rfl, .of_le (by decide) (by decide) (by decide) (by decide), fun q2 hq2 => ?_⟩
    refine ⟨.list ((List.range 10).map fun i => PyData.int (i : Nat)), .list ((List.range 10).map fun i => PyData.int (i : Nat)), .lst (SqL.of (sm_new hq2 _ _ hDs)) (dpr _), .lst (SqL.of upd_same) (dpr _), by decide, by decide, ?_⟩
    rw [show PyData.eqv (.list ((List.range 10).map fun i => PyData.int (i : Nat))) (.list ((List.range 10).map fun i => PyData.int (i : Nat))) = true by decide]
    exact kk _
end
end Toy
set_option maxHeartbeats 8000000
namespace Toy
open PySem L2 C8 SX LX
def klB (K : PySem.W.Frag) (cs : List Addr) (R : Addr) : Bool :=
  (List.range 22).all fun i => ((List.range 22).all fun j => PySem.W.kitOne K (.ref (cs.getD i 0)) (.ref (cs.getD j 0)) == some (decide (i = j))) && (PySem.W.kitOne K (.ref (cs.getD i 0)) (.ref R) == some (decide (i < 20))) && (PySem.W.kitOne K (.ref (cs.getD i 0)) (.type "KeyError") == some (decide (20 ≤ i))) && (PySem.W.kitOne K (.ref (cs.getD i 0)) (.type "ValueError") == some (decide (i < 20)))
section
variable {K : PySem.W.Frag} {cs : List Addr} {R : Addr}
theorem klb_at (h : klB K cs R = true) {i : Nat} (hi : i < 22) : (∀ j, j < 22 → PySem.W.kitOne K (.ref (cs.getD i 0)) (.ref (cs.getD j 0)) = some (decide (i = j))) ∧ PySem.W.kitOne K (.ref (cs.getD i 0)) (.ref R) = some (decide (i < 20)) ∧ PySem.W.kitOne K (.ref (cs.getD i 0)) (.type "KeyError") = some (decide (20 ≤ i)) ∧ PySem.W.kitOne K (.ref (cs.getD i 0)) (.type "ValueError") = some (decide (i < 20)) := by
  have h1 := List.all_eq_true.mp h i (List.mem_range.mpr hi)
  simp only [Bool.and_eq_true] at h1
  obtain ⟨⟨⟨a, b⟩, c⟩, d⟩ := h1
  exact ⟨fun j hj => eq_of_beq (List.all_eq_true.mp a j (List.mem_range.mpr hj)), eq_of_beq b, eq_of_beq c, eq_of_beq d⟩
theorem klb_kind (h : klB K cs R = true) (i j : Nat) (hi : i < 22) (hj : j < 22) : PySem.W.kitOne K (.ref (cs.getD i 0)) (.ref (cs.getD j 0)) = some (decide (i = j)) := (klb_at h hi).1 j hj
theorem klb_row (h : klB K cs R = true) (i : Nat) (hi : i < 22) : PySem.W.kitOne K (.ref (cs.getD i 0)) (.ref R) = some (decide (i < 20)) := (klb_at h hi).2.1
theorem klb_key (h : klB K cs R = true) (i : Nat) (hi : i < 22) : PySem.W.kitOne K (.ref (cs.getD i 0)) (.type "KeyError") = some (decide (20 ≤ i)) := (klb_at h hi).2.2.1
theorem klb_val (h : klB K cs R = true) (i : Nat) (hi : i < 22) : PySem.W.kitOne K (.ref (cs.getD i 0)) (.type "ValueError") = some (decide (i < 20)) := (klb_at h hi).2.2.2
end
theorem getD_mem {cs : List Addr} {i : Nat} (h : i < cs.length) : cs.getD i 0 ∈ cs := by
  rw [List.getD_eq_getElem?_getD, List.getElem?_eq_getElem h]
  exact List.getElem_mem h
theorem all_mk {l : PySem.W.OpenLaw} {w : World} {K : PySem.W.Frag} {h : Heap} {mg : Str → Option Value} {fa : Addr} {f_xi_InvalidReader f_xi_InvalidChange f_xi_InvalidHouse f_xi_InvalidCondition f_xi_InvalidSaying f_xi_InvalidSight f_xi_InvalidCount f_xi_InvalidSum f_xi_InvalidRules f_xi_InvalidBook f_xi_InvalidTerm f_xi_InvalidText f_xi_Refused f_xi_Bound f_xi_NoRow f_xi_NoName f_xi_NoMark f_seed f_choose f_one_of f_any f_words f_others f_marked f_kinds f_law  C_InvalidReader C_InvalidChange C_InvalidHouse C_InvalidCondition C_InvalidSaying C_InvalidSight C_InvalidCount C_InvalidSum C_InvalidRules C_InvalidBook C_InvalidTerm C_InvalidText C_Refused C_Bound C_NoRow C_InvalidRow C_InvalidLot C_InvalidWord C_InvalidCommand C_Mismatch C_NoName C_NoMark C_RowError : Addr} (X : K.In h) (G : h.Ns mainGlobals mg) (hfa : mg "law" = some (.ref fa))
    {od_xi_InvalidReader an_xi_InvalidReader : Option Addr} {sl_xi_InvalidReader : Array (Option Value)} {oc_xi_InvalidReader kV_xi_InvalidReader dc_xi_InvalidReader pm_xi_InvalidReader cd_xi_InvalidReader ct_xi_InvalidReader : Value}
    {od_xi_InvalidChange an_xi_InvalidChange : Option Addr} {sl_xi_InvalidChange : Array (Option Value)} {oc_xi_InvalidChange kV_xi_InvalidChange dc_xi_InvalidChange pm_xi_InvalidChange cd_xi_InvalidChange ct_xi_InvalidChange : Value}
    {od_xi_InvalidHouse an_xi_InvalidHouse : Option Addr} {sl_xi_InvalidHouse : Array (Option Value)} {oc_xi_InvalidHouse kV_xi_InvalidHouse dc_xi_InvalidHouse pm_xi_InvalidHouse cd_xi_InvalidHouse ct_xi_InvalidHouse : Value}
    {od_xi_InvalidCondition an_xi_InvalidCondition : Option Addr} {sl_xi_InvalidCondition : Array (Option Value)} {oc_xi_InvalidCondition kV_xi_InvalidCondition dc_xi_InvalidCondition pm_xi_InvalidCondition cd_xi_InvalidCondition ct_xi_InvalidCondition : Value}
    {od_xi_InvalidSaying an_xi_InvalidSaying : Option Addr} {sl_xi_InvalidSaying : Array (Option Value)} {oc_xi_InvalidSaying kV_xi_InvalidSaying dc_xi_InvalidSaying pm_xi_InvalidSaying cd_xi_InvalidSaying ct_xi_InvalidSaying : Value}
    {od_xi_InvalidSight an_xi_InvalidSight : Option Addr} {sl_xi_InvalidSight : Array (Option Value)} {oc_xi_InvalidSight kV_xi_InvalidSight dc_xi_InvalidSight pm_xi_InvalidSight cd_xi_InvalidSight ct_xi_InvalidSight : Value}
    {od_xi_InvalidCount an_xi_InvalidCount : Option Addr} {sl_xi_InvalidCount : Array (Option Value)} {oc_xi_InvalidCount kV_xi_InvalidCount dc_xi_InvalidCount pm_xi_InvalidCount cd_xi_InvalidCount ct_xi_InvalidCount : Value}
    {od_xi_InvalidSum an_xi_InvalidSum : Option Addr} {sl_xi_InvalidSum : Array (Option Value)} {oc_xi_InvalidSum kV_xi_InvalidSum dc_xi_InvalidSum pm_xi_InvalidSum cd_xi_InvalidSum ct_xi_InvalidSum : Value}
    {od_xi_InvalidRules an_xi_InvalidRules : Option Addr} {sl_xi_InvalidRules : Array (Option Value)} {oc_xi_InvalidRules kV_xi_InvalidRules dc_xi_InvalidRules pm_xi_InvalidRules cd_xi_InvalidRules ct_xi_InvalidRules : Value}
    {od_xi_InvalidBook an_xi_InvalidBook : Option Addr} {sl_xi_InvalidBook : Array (Option Value)} {oc_xi_InvalidBook kV_xi_InvalidBook dc_xi_InvalidBook pm_xi_InvalidBook cd_xi_InvalidBook ct_xi_InvalidBook : Value}
    {od_xi_InvalidTerm an_xi_InvalidTerm : Option Addr} {sl_xi_InvalidTerm : Array (Option Value)} {oc_xi_InvalidTerm kV_xi_InvalidTerm dc_xi_InvalidTerm pm_xi_InvalidTerm cd_xi_InvalidTerm ct_xi_InvalidTerm : Value}
    {od_xi_InvalidText an_xi_InvalidText : Option Addr} {sl_xi_InvalidText : Array (Option Value)} {oc_xi_InvalidText kV_xi_InvalidText dc_xi_InvalidText pm_xi_InvalidText cd_xi_InvalidText ct_xi_InvalidText : Value}
    {od_xi_Refused an_xi_Refused : Option Addr} {sl_xi_Refused : Array (Option Value)} {oc_xi_Refused kV_xi_Refused dc_xi_Refused pm_xi_Refused cd_xi_Refused ct_xi_Refused : Value}
    {od_xi_Bound an_xi_Bound : Option Addr} {sl_xi_Bound : Array (Option Value)} {oc_xi_Bound kV_xi_Bound dc_xi_Bound pm_xi_Bound cd_xi_Bound ct_xi_Bound : Value}
    {od_xi_NoRow an_xi_NoRow : Option Addr} {sl_xi_NoRow : Array (Option Value)} {oc_xi_NoRow kV_xi_NoRow dc_xi_NoRow pm_xi_NoRow cd_xi_NoRow ct_xi_NoRow : Value}
    {od_xi_NoName an_xi_NoName : Option Addr} {sl_xi_NoName : Array (Option Value)} {oc_xi_NoName kV_xi_NoName dc_xi_NoName pm_xi_NoName cd_xi_NoName ct_xi_NoName : Value}
    {od_xi_NoMark an_xi_NoMark : Option Addr} {sl_xi_NoMark : Array (Option Value)} {oc_xi_NoMark kV_xi_NoMark dc_xi_NoMark pm_xi_NoMark cd_xi_NoMark ct_xi_NoMark : Value}
    {od_seed an_seed : Option Addr} {sl_seed : Array (Option Value)} {oc_seed kV_seed dc_seed pm_seed cd_seed ct_seed : Value}
    {od_choose an_choose : Option Addr} {sl_choose : Array (Option Value)} {oc_choose kV_choose dc_choose pm_choose cd_choose ct_choose : Value}
    {od_one_of an_one_of : Option Addr} {sl_one_of : Array (Option Value)} {oc_one_of kV_one_of dc_one_of pm_one_of cd_one_of ct_one_of : Value}
    {od_any an_any : Option Addr} {sl_any : Array (Option Value)} {oc_any kV_any dc_any pm_any cd_any ct_any : Value}
    {od_words an_words : Option Addr} {sl_words : Array (Option Value)} {oc_words kV_words dc_words pm_words cd_words ct_words : Value}
    {od_others an_others : Option Addr} {sl_others : Array (Option Value)} {oc_others kV_others dc_others pm_others cd_others ct_others : Value}
    {od_marked an_marked : Option Addr} {sl_marked : Array (Option Value)} {oc_marked kV_marked dc_marked pm_marked cd_marked ct_marked : Value}
    {od_kinds an_kinds : Option Addr} {sl_kinds : Array (Option Value)} {oc_kinds kV_kinds dc_kinds pm_kinds cd_kinds ct_kinds : Value}
    {od_law an_law : Option Addr} {sl_law : Array (Option Value)} {oc_law kV_law dc_law pm_law cd_law ct_law : Value}
    (xg_InvalidReader : PySem.W.nsIn K mainGlobals "InvalidReader" = some (some (.ref C_InvalidReader)))
    (xg_InvalidChange : PySem.W.nsIn K mainGlobals "InvalidChange" = some (some (.ref C_InvalidChange)))
    (xg_InvalidHouse : PySem.W.nsIn K mainGlobals "InvalidHouse" = some (some (.ref C_InvalidHouse)))
    (xg_InvalidCondition : PySem.W.nsIn K mainGlobals "InvalidCondition" = some (some (.ref C_InvalidCondition)))
    (xg_InvalidSaying : PySem.W.nsIn K mainGlobals "InvalidSaying" = some (some (.ref C_InvalidSaying)))
    (xg_InvalidSight : PySem.W.nsIn K mainGlobals "InvalidSight" = some (some (.ref C_InvalidSight)))
    (xg_InvalidCount : PySem.W.nsIn K mainGlobals "InvalidCount" = some (some (.ref C_InvalidCount)))
    (xg_InvalidSum : PySem.W.nsIn K mainGlobals "InvalidSum" = some (some (.ref C_InvalidSum)))
    (xg_InvalidRules : PySem.W.nsIn K mainGlobals "InvalidRules" = some (some (.ref C_InvalidRules)))
    (xg_InvalidBook : PySem.W.nsIn K mainGlobals "InvalidBook" = some (some (.ref C_InvalidBook)))
    (xg_InvalidTerm : PySem.W.nsIn K mainGlobals "InvalidTerm" = some (some (.ref C_InvalidTerm)))
    (xg_InvalidText : PySem.W.nsIn K mainGlobals "InvalidText" = some (some (.ref C_InvalidText)))
    (xg_Refused : PySem.W.nsIn K mainGlobals "Refused" = some (some (.ref C_Refused)))
    (xg_Bound : PySem.W.nsIn K mainGlobals "Bound" = some (some (.ref C_Bound)))
    (xg_NoRow : PySem.W.nsIn K mainGlobals "NoRow" = some (some (.ref C_NoRow)))
    (xg_InvalidRow : PySem.W.nsIn K mainGlobals "InvalidRow" = some (some (.ref C_InvalidRow)))
    (xg_InvalidLot : PySem.W.nsIn K mainGlobals "InvalidLot" = some (some (.ref C_InvalidLot)))
    (xg_InvalidWord : PySem.W.nsIn K mainGlobals "InvalidWord" = some (some (.ref C_InvalidWord)))
    (xg_InvalidCommand : PySem.W.nsIn K mainGlobals "InvalidCommand" = some (some (.ref C_InvalidCommand)))
    (xg_Mismatch : PySem.W.nsIn K mainGlobals "Mismatch" = some (some (.ref C_Mismatch)))
    (xg_NoName : PySem.W.nsIn K mainGlobals "NoName" = some (some (.ref C_NoName)))
    (xg_NoMark : PySem.W.nsIn K mainGlobals "NoMark" = some (some (.ref C_NoMark)))
    (xg_RowError : PySem.W.nsIn K mainGlobals "RowError" = some (some (.ref C_RowError)))
    (x_InvalidReader : XC K C_InvalidReader)
    (x_InvalidChange : XC K C_InvalidChange)
    (x_InvalidHouse : XC K C_InvalidHouse)
    (x_InvalidCondition : XC K C_InvalidCondition)
    (x_InvalidSaying : XC K C_InvalidSaying)
    (x_InvalidSight : XC K C_InvalidSight)
    (x_InvalidCount : XC K C_InvalidCount)
    (x_InvalidSum : XC K C_InvalidSum)
    (x_InvalidRules : XC K C_InvalidRules)
    (x_InvalidBook : XC K C_InvalidBook)
    (x_InvalidTerm : XC K C_InvalidTerm)
    (x_InvalidText : XC K C_InvalidText)
    (x_Refused : XC K C_Refused)
    (x_Bound : XC K C_Bound)
    (x_NoRow : XC K C_NoRow)
    (x_InvalidRow : XC K C_InvalidRow)
    (x_InvalidLot : XC K C_InvalidLot)
    (x_InvalidWord : XC K C_InvalidWord)
    (x_InvalidCommand : XC K C_InvalidCommand)
    (x_Mismatch : XC K C_Mismatch)
    (x_NoName : XC K C_NoName)
    (x_NoMark : XC K C_NoMark)
    (xf_InvalidReader : PySem.W.findIn K (.ref C_InvalidReader) "word" = some none)
    (xf_InvalidChange : PySem.W.findIn K (.ref C_InvalidChange) "word" = some none)
    (xf_InvalidHouse : PySem.W.findIn K (.ref C_InvalidHouse) "word" = some none)
    (xf_InvalidCondition : PySem.W.findIn K (.ref C_InvalidCondition) "word" = some none)
    (xf_InvalidSaying : PySem.W.findIn K (.ref C_InvalidSaying) "word" = some none)
    (xf_InvalidSight : PySem.W.findIn K (.ref C_InvalidSight) "word" = some none)
    (xf_InvalidCount : PySem.W.findIn K (.ref C_InvalidCount) "word" = some none)
    (xf_InvalidSum : PySem.W.findIn K (.ref C_InvalidSum) "word" = some none)
    (xf_InvalidRules : PySem.W.findIn K (.ref C_InvalidRules) "word" = some none)
    (xf_InvalidBook : PySem.W.findIn K (.ref C_InvalidBook) "word" = some none)
    (xf_InvalidTerm : PySem.W.findIn K (.ref C_InvalidTerm) "at" = some none)
    (xf_InvalidText : PySem.W.findIn K (.ref C_InvalidText) "at" = some none)
    (xf_Refused : PySem.W.findIn K (.ref C_Refused) "at" = some none)
    (xf_Bound : PySem.W.findIn K (.ref C_Bound) "name" = some none)
    (xf_NoRow : PySem.W.findIn K (.ref C_NoRow) "name" = some none)
    (xf_NoName : PySem.W.findIn K (.ref C_NoName) "name" = some none)
    (xf_NoMark : PySem.W.findIn K (.ref C_NoMark) "mark" = some none)
    (xe_InvalidRow : PySem.W.excIn K C_InvalidRow [.type "ValueError", .type "Exception", .type "BaseException", .type "object"] "ValueError.__new__" = true)
    (xe_InvalidLot : PySem.W.excIn K C_InvalidLot [.type "ValueError", .type "Exception", .type "BaseException", .type "object"] "ValueError.__new__" = true)
    (xe_InvalidWord : PySem.W.excIn K C_InvalidWord [.type "ValueError", .type "Exception", .type "BaseException", .type "object"] "ValueError.__new__" = true)
    (xe_InvalidCommand : PySem.W.excIn K C_InvalidCommand [.type "ValueError", .type "Exception", .type "BaseException", .type "object"] "ValueError.__new__" = true)
    (xe_Mismatch : PySem.W.excIn K C_Mismatch [.type "ValueError", .type "Exception", .type "BaseException", .type "object"] "ValueError.__new__" = true)
    (klb : klB K [C_InvalidReader, C_InvalidChange, C_InvalidHouse, C_InvalidCondition, C_InvalidSaying, C_InvalidSight, C_InvalidCount, C_InvalidSum, C_InvalidRules, C_InvalidBook, C_InvalidTerm, C_InvalidText, C_Refused, C_Bound, C_NoRow, C_InvalidRow, C_InvalidLot, C_InvalidWord, C_InvalidCommand, C_Mismatch, C_NoName, C_NoMark] C_RowError = true)
    (z_KeyError : PySem.W.nsIn K mainGlobals "KeyError" = some none)
    (z_ValueError : PySem.W.nsIn K mainGlobals "ValueError" = some none)
    (a_xi_InvalidReader : PySem.W.findIn K (.ref C_InvalidReader) "__init__" = some (some (.ref f_xi_InvalidReader)))
    (i_xi_InvalidReader : PySem.W.isFn K (.ref f_xi_InvalidReader) = true)
    (l_xi_InvalidReader : K.lookup f_xi_InvalidReader = some ⟨oc_xi_InvalidReader, od_xi_InvalidReader, .func (PySem.W.fnOf "__init__" "InvalidReader.__init__" (C8.fnArgs s_xi_InvalidReader) (C8.fnBody s_xi_InvalidReader) (C8.fnScope s_xi_InvalidReader) .none kV_xi_InvalidReader dc_xi_InvalidReader pm_xi_InvalidReader an_xi_InvalidReader cd_xi_InvalidReader ct_xi_InvalidReader), sl_xi_InvalidReader⟩)
    (c_xi_InvalidReader : PySem.W.codeIn K cd_xi_InvalidReader "InvalidReader.__init__" = true)
    (k_xi_InvalidReader : PySem.W.keepIn K (.ref f_xi_InvalidReader) = true)
    (a_xi_InvalidChange : PySem.W.findIn K (.ref C_InvalidChange) "__init__" = some (some (.ref f_xi_InvalidChange)))
    (i_xi_InvalidChange : PySem.W.isFn K (.ref f_xi_InvalidChange) = true)
    (l_xi_InvalidChange : K.lookup f_xi_InvalidChange = some ⟨oc_xi_InvalidChange, od_xi_InvalidChange, .func (PySem.W.fnOf "__init__" "InvalidChange.__init__" (C8.fnArgs s_xi_InvalidChange) (C8.fnBody s_xi_InvalidChange) (C8.fnScope s_xi_InvalidChange) .none kV_xi_InvalidChange dc_xi_InvalidChange pm_xi_InvalidChange an_xi_InvalidChange cd_xi_InvalidChange ct_xi_InvalidChange), sl_xi_InvalidChange⟩)
    (c_xi_InvalidChange : PySem.W.codeIn K cd_xi_InvalidChange "InvalidChange.__init__" = true)
    (k_xi_InvalidChange : PySem.W.keepIn K (.ref f_xi_InvalidChange) = true)
    (a_xi_InvalidHouse : PySem.W.findIn K (.ref C_InvalidHouse) "__init__" = some (some (.ref f_xi_InvalidHouse)))
    (i_xi_InvalidHouse : PySem.W.isFn K (.ref f_xi_InvalidHouse) = true)
    (l_xi_InvalidHouse : K.lookup f_xi_InvalidHouse = some ⟨oc_xi_InvalidHouse, od_xi_InvalidHouse, .func (PySem.W.fnOf "__init__" "InvalidHouse.__init__" (C8.fnArgs s_xi_InvalidHouse) (C8.fnBody s_xi_InvalidHouse) (C8.fnScope s_xi_InvalidHouse) .none kV_xi_InvalidHouse dc_xi_InvalidHouse pm_xi_InvalidHouse an_xi_InvalidHouse cd_xi_InvalidHouse ct_xi_InvalidHouse), sl_xi_InvalidHouse⟩)
    (c_xi_InvalidHouse : PySem.W.codeIn K cd_xi_InvalidHouse "InvalidHouse.__init__" = true)
    (k_xi_InvalidHouse : PySem.W.keepIn K (.ref f_xi_InvalidHouse) = true)
    (a_xi_InvalidCondition : PySem.W.findIn K (.ref C_InvalidCondition) "__init__" = some (some (.ref f_xi_InvalidCondition)))
    (i_xi_InvalidCondition : PySem.W.isFn K (.ref f_xi_InvalidCondition) = true)
    (l_xi_InvalidCondition : K.lookup f_xi_InvalidCondition = some ⟨oc_xi_InvalidCondition, od_xi_InvalidCondition, .func (PySem.W.fnOf "__init__" "InvalidCondition.__init__" (C8.fnArgs s_xi_InvalidCondition) (C8.fnBody s_xi_InvalidCondition) (C8.fnScope s_xi_InvalidCondition) .none kV_xi_InvalidCondition dc_xi_InvalidCondition pm_xi_InvalidCondition an_xi_InvalidCondition cd_xi_InvalidCondition ct_xi_InvalidCondition), sl_xi_InvalidCondition⟩)
    (c_xi_InvalidCondition : PySem.W.codeIn K cd_xi_InvalidCondition "InvalidCondition.__init__" = true)
    (k_xi_InvalidCondition : PySem.W.keepIn K (.ref f_xi_InvalidCondition) = true)
    (a_xi_InvalidSaying : PySem.W.findIn K (.ref C_InvalidSaying) "__init__" = some (some (.ref f_xi_InvalidSaying)))
    (i_xi_InvalidSaying : PySem.W.isFn K (.ref f_xi_InvalidSaying) = true)
    (l_xi_InvalidSaying : K.lookup f_xi_InvalidSaying = some ⟨oc_xi_InvalidSaying, od_xi_InvalidSaying, .func (PySem.W.fnOf "__init__" "InvalidSaying.__init__" (C8.fnArgs s_xi_InvalidSaying) (C8.fnBody s_xi_InvalidSaying) (C8.fnScope s_xi_InvalidSaying) .none kV_xi_InvalidSaying dc_xi_InvalidSaying pm_xi_InvalidSaying an_xi_InvalidSaying cd_xi_InvalidSaying ct_xi_InvalidSaying), sl_xi_InvalidSaying⟩)
    (c_xi_InvalidSaying : PySem.W.codeIn K cd_xi_InvalidSaying "InvalidSaying.__init__" = true)
    (k_xi_InvalidSaying : PySem.W.keepIn K (.ref f_xi_InvalidSaying) = true)
    (a_xi_InvalidSight : PySem.W.findIn K (.ref C_InvalidSight) "__init__" = some (some (.ref f_xi_InvalidSight)))
    (i_xi_InvalidSight : PySem.W.isFn K (.ref f_xi_InvalidSight) = true)
    (l_xi_InvalidSight : K.lookup f_xi_InvalidSight = some ⟨oc_xi_InvalidSight, od_xi_InvalidSight, .func (PySem.W.fnOf "__init__" "InvalidSight.__init__" (C8.fnArgs s_xi_InvalidSight) (C8.fnBody s_xi_InvalidSight) (C8.fnScope s_xi_InvalidSight) .none kV_xi_InvalidSight dc_xi_InvalidSight pm_xi_InvalidSight an_xi_InvalidSight cd_xi_InvalidSight ct_xi_InvalidSight), sl_xi_InvalidSight⟩)
    (c_xi_InvalidSight : PySem.W.codeIn K cd_xi_InvalidSight "InvalidSight.__init__" = true)
    (k_xi_InvalidSight : PySem.W.keepIn K (.ref f_xi_InvalidSight) = true)
    (a_xi_InvalidCount : PySem.W.findIn K (.ref C_InvalidCount) "__init__" = some (some (.ref f_xi_InvalidCount)))
    (i_xi_InvalidCount : PySem.W.isFn K (.ref f_xi_InvalidCount) = true)
    (l_xi_InvalidCount : K.lookup f_xi_InvalidCount = some ⟨oc_xi_InvalidCount, od_xi_InvalidCount, .func (PySem.W.fnOf "__init__" "InvalidCount.__init__" (C8.fnArgs s_xi_InvalidCount) (C8.fnBody s_xi_InvalidCount) (C8.fnScope s_xi_InvalidCount) .none kV_xi_InvalidCount dc_xi_InvalidCount pm_xi_InvalidCount an_xi_InvalidCount cd_xi_InvalidCount ct_xi_InvalidCount), sl_xi_InvalidCount⟩)
    (c_xi_InvalidCount : PySem.W.codeIn K cd_xi_InvalidCount "InvalidCount.__init__" = true)
    (k_xi_InvalidCount : PySem.W.keepIn K (.ref f_xi_InvalidCount) = true)
    (a_xi_InvalidSum : PySem.W.findIn K (.ref C_InvalidSum) "__init__" = some (some (.ref f_xi_InvalidSum)))
    (i_xi_InvalidSum : PySem.W.isFn K (.ref f_xi_InvalidSum) = true)
    (l_xi_InvalidSum : K.lookup f_xi_InvalidSum = some ⟨oc_xi_InvalidSum, od_xi_InvalidSum, .func (PySem.W.fnOf "__init__" "InvalidSum.__init__" (C8.fnArgs s_xi_InvalidSum) (C8.fnBody s_xi_InvalidSum) (C8.fnScope s_xi_InvalidSum) .none kV_xi_InvalidSum dc_xi_InvalidSum pm_xi_InvalidSum an_xi_InvalidSum cd_xi_InvalidSum ct_xi_InvalidSum), sl_xi_InvalidSum⟩)
    (c_xi_InvalidSum : PySem.W.codeIn K cd_xi_InvalidSum "InvalidSum.__init__" = true)
    (k_xi_InvalidSum : PySem.W.keepIn K (.ref f_xi_InvalidSum) = true)
    (a_xi_InvalidRules : PySem.W.findIn K (.ref C_InvalidRules) "__init__" = some (some (.ref f_xi_InvalidRules)))
    (i_xi_InvalidRules : PySem.W.isFn K (.ref f_xi_InvalidRules) = true)
    (l_xi_InvalidRules : K.lookup f_xi_InvalidRules = some ⟨oc_xi_InvalidRules, od_xi_InvalidRules, .func (PySem.W.fnOf "__init__" "InvalidRules.__init__" (C8.fnArgs s_xi_InvalidRules) (C8.fnBody s_xi_InvalidRules) (C8.fnScope s_xi_InvalidRules) .none kV_xi_InvalidRules dc_xi_InvalidRules pm_xi_InvalidRules an_xi_InvalidRules cd_xi_InvalidRules ct_xi_InvalidRules), sl_xi_InvalidRules⟩)
    (c_xi_InvalidRules : PySem.W.codeIn K cd_xi_InvalidRules "InvalidRules.__init__" = true)
    (k_xi_InvalidRules : PySem.W.keepIn K (.ref f_xi_InvalidRules) = true)
    (a_xi_InvalidBook : PySem.W.findIn K (.ref C_InvalidBook) "__init__" = some (some (.ref f_xi_InvalidBook)))
    (i_xi_InvalidBook : PySem.W.isFn K (.ref f_xi_InvalidBook) = true)
    (l_xi_InvalidBook : K.lookup f_xi_InvalidBook = some ⟨oc_xi_InvalidBook, od_xi_InvalidBook, .func (PySem.W.fnOf "__init__" "InvalidBook.__init__" (C8.fnArgs s_xi_InvalidBook) (C8.fnBody s_xi_InvalidBook) (C8.fnScope s_xi_InvalidBook) .none kV_xi_InvalidBook dc_xi_InvalidBook pm_xi_InvalidBook an_xi_InvalidBook cd_xi_InvalidBook ct_xi_InvalidBook), sl_xi_InvalidBook⟩)
    (c_xi_InvalidBook : PySem.W.codeIn K cd_xi_InvalidBook "InvalidBook.__init__" = true)
    (k_xi_InvalidBook : PySem.W.keepIn K (.ref f_xi_InvalidBook) = true)
    (a_xi_InvalidTerm : PySem.W.findIn K (.ref C_InvalidTerm) "__init__" = some (some (.ref f_xi_InvalidTerm)))
    (i_xi_InvalidTerm : PySem.W.isFn K (.ref f_xi_InvalidTerm) = true)
    (l_xi_InvalidTerm : K.lookup f_xi_InvalidTerm = some ⟨oc_xi_InvalidTerm, od_xi_InvalidTerm, .func (PySem.W.fnOf "__init__" "InvalidTerm.__init__" (C8.fnArgs s_xi_InvalidTerm) (C8.fnBody s_xi_InvalidTerm) (C8.fnScope s_xi_InvalidTerm) .none kV_xi_InvalidTerm dc_xi_InvalidTerm pm_xi_InvalidTerm an_xi_InvalidTerm cd_xi_InvalidTerm ct_xi_InvalidTerm), sl_xi_InvalidTerm⟩)
    (c_xi_InvalidTerm : PySem.W.codeIn K cd_xi_InvalidTerm "InvalidTerm.__init__" = true)
    (k_xi_InvalidTerm : PySem.W.keepIn K (.ref f_xi_InvalidTerm) = true)
    (a_xi_InvalidText : PySem.W.findIn K (.ref C_InvalidText) "__init__" = some (some (.ref f_xi_InvalidText)))
    (i_xi_InvalidText : PySem.W.isFn K (.ref f_xi_InvalidText) = true)
    (l_xi_InvalidText : K.lookup f_xi_InvalidText = some ⟨oc_xi_InvalidText, od_xi_InvalidText, .func (PySem.W.fnOf "__init__" "InvalidText.__init__" (C8.fnArgs s_xi_InvalidText) (C8.fnBody s_xi_InvalidText) (C8.fnScope s_xi_InvalidText) .none kV_xi_InvalidText dc_xi_InvalidText pm_xi_InvalidText an_xi_InvalidText cd_xi_InvalidText ct_xi_InvalidText), sl_xi_InvalidText⟩)
    (c_xi_InvalidText : PySem.W.codeIn K cd_xi_InvalidText "InvalidText.__init__" = true)
    (k_xi_InvalidText : PySem.W.keepIn K (.ref f_xi_InvalidText) = true)
    (a_xi_Refused : PySem.W.findIn K (.ref C_Refused) "__init__" = some (some (.ref f_xi_Refused)))
    (i_xi_Refused : PySem.W.isFn K (.ref f_xi_Refused) = true)
    (l_xi_Refused : K.lookup f_xi_Refused = some ⟨oc_xi_Refused, od_xi_Refused, .func (PySem.W.fnOf "__init__" "Refused.__init__" (C8.fnArgs s_xi_Refused) (C8.fnBody s_xi_Refused) (C8.fnScope s_xi_Refused) .none kV_xi_Refused dc_xi_Refused pm_xi_Refused an_xi_Refused cd_xi_Refused ct_xi_Refused), sl_xi_Refused⟩)
    (c_xi_Refused : PySem.W.codeIn K cd_xi_Refused "Refused.__init__" = true)
    (k_xi_Refused : PySem.W.keepIn K (.ref f_xi_Refused) = true)
    (a_xi_Bound : PySem.W.findIn K (.ref C_Bound) "__init__" = some (some (.ref f_xi_Bound)))
    (i_xi_Bound : PySem.W.isFn K (.ref f_xi_Bound) = true)
    (l_xi_Bound : K.lookup f_xi_Bound = some ⟨oc_xi_Bound, od_xi_Bound, .func (PySem.W.fnOf "__init__" "Bound.__init__" (C8.fnArgs s_xi_Bound) (C8.fnBody s_xi_Bound) (C8.fnScope s_xi_Bound) .none kV_xi_Bound dc_xi_Bound pm_xi_Bound an_xi_Bound cd_xi_Bound ct_xi_Bound), sl_xi_Bound⟩)
    (c_xi_Bound : PySem.W.codeIn K cd_xi_Bound "Bound.__init__" = true)
    (k_xi_Bound : PySem.W.keepIn K (.ref f_xi_Bound) = true)
    (a_xi_NoRow : PySem.W.findIn K (.ref C_NoRow) "__init__" = some (some (.ref f_xi_NoRow)))
    (i_xi_NoRow : PySem.W.isFn K (.ref f_xi_NoRow) = true)
    (l_xi_NoRow : K.lookup f_xi_NoRow = some ⟨oc_xi_NoRow, od_xi_NoRow, .func (PySem.W.fnOf "__init__" "NoRow.__init__" (C8.fnArgs s_xi_NoRow) (C8.fnBody s_xi_NoRow) (C8.fnScope s_xi_NoRow) .none kV_xi_NoRow dc_xi_NoRow pm_xi_NoRow an_xi_NoRow cd_xi_NoRow ct_xi_NoRow), sl_xi_NoRow⟩)
    (c_xi_NoRow : PySem.W.codeIn K cd_xi_NoRow "NoRow.__init__" = true)
    (k_xi_NoRow : PySem.W.keepIn K (.ref f_xi_NoRow) = true)
    (a_xi_NoName : PySem.W.findIn K (.ref C_NoName) "__init__" = some (some (.ref f_xi_NoName)))
    (i_xi_NoName : PySem.W.isFn K (.ref f_xi_NoName) = true)
    (l_xi_NoName : K.lookup f_xi_NoName = some ⟨oc_xi_NoName, od_xi_NoName, .func (PySem.W.fnOf "__init__" "NoName.__init__" (C8.fnArgs s_xi_NoName) (C8.fnBody s_xi_NoName) (C8.fnScope s_xi_NoName) .none kV_xi_NoName dc_xi_NoName pm_xi_NoName an_xi_NoName cd_xi_NoName ct_xi_NoName), sl_xi_NoName⟩)
    (c_xi_NoName : PySem.W.codeIn K cd_xi_NoName "NoName.__init__" = true)
    (k_xi_NoName : PySem.W.keepIn K (.ref f_xi_NoName) = true)
    (a_xi_NoMark : PySem.W.findIn K (.ref C_NoMark) "__init__" = some (some (.ref f_xi_NoMark)))
    (i_xi_NoMark : PySem.W.isFn K (.ref f_xi_NoMark) = true)
    (l_xi_NoMark : K.lookup f_xi_NoMark = some ⟨oc_xi_NoMark, od_xi_NoMark, .func (PySem.W.fnOf "__init__" "NoMark.__init__" (C8.fnArgs s_xi_NoMark) (C8.fnBody s_xi_NoMark) (C8.fnScope s_xi_NoMark) .none kV_xi_NoMark dc_xi_NoMark pm_xi_NoMark an_xi_NoMark cd_xi_NoMark ct_xi_NoMark), sl_xi_NoMark⟩)
    (c_xi_NoMark : PySem.W.codeIn K cd_xi_NoMark "NoMark.__init__" = true)
    (k_xi_NoMark : PySem.W.keepIn K (.ref f_xi_NoMark) = true)
    (a_seed : PySem.W.nsIn K mainGlobals "_law_seed" = some (some (.ref f_seed)))
    (l_seed : K.lookup f_seed = some ⟨oc_seed, od_seed, .func (PySem.W.fnOf "_law_seed" "_law_seed" (C8.fnArgs s_seed) (C8.fnBody s_seed) (C8.fnScope s_seed) .none kV_seed dc_seed pm_seed an_seed cd_seed ct_seed), sl_seed⟩)
    (c_seed : PySem.W.codeIn K cd_seed "_law_seed" = true)
    (k_seed : PySem.W.keepIn K (.ref f_seed) = true)
    (a_choose : PySem.W.nsIn K mainGlobals "_law_choose" = some (some (.ref f_choose)))
    (l_choose : K.lookup f_choose = some ⟨oc_choose, od_choose, .func (PySem.W.fnOf "_law_choose" "_law_choose" (C8.fnArgs s_choose) (C8.fnBody s_choose) (C8.fnScope s_choose) .none kV_choose dc_choose pm_choose an_choose cd_choose ct_choose), sl_choose⟩)
    (c_choose : PySem.W.codeIn K cd_choose "_law_choose" = true)
    (k_choose : PySem.W.keepIn K (.ref f_choose) = true)
    (a_one_of : PySem.W.nsIn K mainGlobals "_law_one_of" = some (some (.ref f_one_of)))
    (l_one_of : K.lookup f_one_of = some ⟨oc_one_of, od_one_of, .func (PySem.W.fnOf "_law_one_of" "_law_one_of" (C8.fnArgs s_one_of) (C8.fnBody s_one_of) (C8.fnScope s_one_of) .none kV_one_of dc_one_of pm_one_of an_one_of cd_one_of ct_one_of), sl_one_of⟩)
    (c_one_of : PySem.W.codeIn K cd_one_of "_law_one_of" = true)
    (k_one_of : PySem.W.keepIn K (.ref f_one_of) = true)
    (a_any : PySem.W.nsIn K mainGlobals "_law_any" = some (some (.ref f_any)))
    (l_any : K.lookup f_any = some ⟨oc_any, od_any, .func (PySem.W.fnOf "_law_any" "_law_any" (C8.fnArgs s_any) (C8.fnBody s_any) (C8.fnScope s_any) .none kV_any dc_any pm_any an_any cd_any ct_any), sl_any⟩)
    (c_any : PySem.W.codeIn K cd_any "_law_any" = true)
    (k_any : PySem.W.keepIn K (.ref f_any) = true)
    (a_words : PySem.W.nsIn K mainGlobals "_law_words" = some (some (.ref f_words)))
    (l_words : K.lookup f_words = some ⟨oc_words, od_words, .func (PySem.W.fnOf "_law_words" "_law_words" (C8.fnArgs s_words) (C8.fnBody s_words) (C8.fnScope s_words) .none kV_words dc_words pm_words an_words cd_words ct_words), sl_words⟩)
    (c_words : PySem.W.codeIn K cd_words "_law_words" = true)
    (k_words : PySem.W.keepIn K (.ref f_words) = true)
    (a_others : PySem.W.nsIn K mainGlobals "_law_others" = some (some (.ref f_others)))
    (l_others : K.lookup f_others = some ⟨oc_others, od_others, .func (PySem.W.fnOf "_law_others" "_law_others" (C8.fnArgs s_others) (C8.fnBody s_others) (C8.fnScope s_others) .none kV_others dc_others pm_others an_others cd_others ct_others), sl_others⟩)
    (c_others : PySem.W.codeIn K cd_others "_law_others" = true)
    (k_others : PySem.W.keepIn K (.ref f_others) = true)
    (a_marked : PySem.W.nsIn K mainGlobals "_law_marked" = some (some (.ref f_marked)))
    (l_marked : K.lookup f_marked = some ⟨oc_marked, od_marked, .func (PySem.W.fnOf "_law_marked" "_law_marked" (C8.fnArgs s_marked) (C8.fnBody s_marked) (C8.fnScope s_marked) .none kV_marked dc_marked pm_marked an_marked cd_marked ct_marked), sl_marked⟩)
    (c_marked : PySem.W.codeIn K cd_marked "_law_marked" = true)
    (k_marked : PySem.W.keepIn K (.ref f_marked) = true)
    (a_kinds : PySem.W.nsIn K mainGlobals "_law_kinds" = some (some (.ref f_kinds)))
    (l_kinds : K.lookup f_kinds = some ⟨oc_kinds, od_kinds, .func (PySem.W.fnOf "_law_kinds" "_law_kinds" (C8.fnArgs s_kinds) (C8.fnBody s_kinds) (C8.fnScope s_kinds) .none kV_kinds dc_kinds pm_kinds an_kinds cd_kinds ct_kinds), sl_kinds⟩)
    (c_kinds : PySem.W.codeIn K cd_kinds "_law_kinds" = true)
    (k_kinds : PySem.W.keepIn K (.ref f_kinds) = true)
    (a_law : PySem.W.nsIn K mainGlobals "law" = some (some (.ref f_law)))
    (l_law : K.lookup f_law = some ⟨oc_law, od_law, .func (PySem.W.fnOf "law" "law" (C8.fnArgs s_law) (C8.fnBody s_law) (C8.fnScope s_law) .none kV_law dc_law pm_law an_law cd_law ct_law), sl_law⟩)
    (c_law : PySem.W.codeIn K cd_law "law" = true)
    (k_law : PySem.W.keepIn K (.ref f_law) = true)
    (z_int : PySem.W.nsIn K mainGlobals "int" = some none)
    (z_len : PySem.W.nsIn K mainGlobals "len" = some none)
    (z_abs : PySem.W.nsIn K mainGlobals "abs" = some none)
    (z_tuple : PySem.W.nsIn K mainGlobals "tuple" = some none)
    (z_list : PySem.W.nsIn K mainGlobals "list" = some none)
    (z_isinstance : PySem.W.nsIn K mainGlobals "isinstance" = some none)
    (z_range : PySem.W.nsIn K mainGlobals "range" = some none)
    (z_max : PySem.W.nsIn K mainGlobals "max" = some none)
    (z_min : PySem.W.nsIn K mainGlobals "min" = some none)
    (z_repr : PySem.W.nsIn K mainGlobals "repr" = some none) :
    ∃ fd : FuncData, (∀ (s : Shared) (v : Value), BindsTo s fd ⟨[v], []⟩ [("script", v)]) ∧ ∀ base : Heap, K.In base → base.Ns mainGlobals mg → FnG l.prog w K mg base 9 fa fd ["script"] (spLaw K) := by
  have e := hfa.symm.trans (PySem.W.mg_of X G a_law)
  cases e
  have T : BT mg := ⟨PySem.W.mg_none_of X G z_int, PySem.W.mg_none_of X G z_len, PySem.W.mg_none_of X G z_abs, PySem.W.mg_none_of X G z_tuple, PySem.W.mg_none_of X G z_list, PySem.W.mg_none_of X G z_isinstance, PySem.W.mg_none_of X G z_range, PySem.W.mg_none_of X G z_max, PySem.W.mg_none_of X G z_min, PySem.W.mg_none_of X G z_repr⟩
  have U_xi_InvalidReader : C8.Fun K "__init__" "InvalidReader.__init__" s_xi_InvalidReader f_xi_InvalidReader (PySem.W.fnOf "__init__" "InvalidReader.__init__" (C8.fnArgs s_xi_InvalidReader) (C8.fnBody s_xi_InvalidReader) (C8.fnScope s_xi_InvalidReader) .none kV_xi_InvalidReader dc_xi_InvalidReader pm_xi_InvalidReader an_xi_InvalidReader cd_xi_InvalidReader ct_xi_InvalidReader) := ⟨oc_xi_InvalidReader, od_xi_InvalidReader, .none, kV_xi_InvalidReader, dc_xi_InvalidReader, pm_xi_InvalidReader, an_xi_InvalidReader, cd_xi_InvalidReader, ct_xi_InvalidReader, sl_xi_InvalidReader, rfl, l_xi_InvalidReader, c_xi_InvalidReader⟩
  have me_xi_InvalidReader : Meth K C_InvalidReader "__init__" f_xi_InvalidReader := ⟨a_xi_InvalidReader, i_xi_InvalidReader, k_xi_InvalidReader⟩
  have b_xi_InvalidReader := U_xi_InvalidReader.binds rfl (ps := ["self", "word"]) fun _ _ _ _ _ _ us hl => match us, hl with | [_, _], _ => rfl
  have U_xi_InvalidChange : C8.Fun K "__init__" "InvalidChange.__init__" s_xi_InvalidChange f_xi_InvalidChange (PySem.W.fnOf "__init__" "InvalidChange.__init__" (C8.fnArgs s_xi_InvalidChange) (C8.fnBody s_xi_InvalidChange) (C8.fnScope s_xi_InvalidChange) .none kV_xi_InvalidChange dc_xi_InvalidChange pm_xi_InvalidChange an_xi_InvalidChange cd_xi_InvalidChange ct_xi_InvalidChange) := ⟨oc_xi_InvalidChange, od_xi_InvalidChange, .none, kV_xi_InvalidChange, dc_xi_InvalidChange, pm_xi_InvalidChange, an_xi_InvalidChange, cd_xi_InvalidChange, ct_xi_InvalidChange, sl_xi_InvalidChange, rfl, l_xi_InvalidChange, c_xi_InvalidChange⟩
  have me_xi_InvalidChange : Meth K C_InvalidChange "__init__" f_xi_InvalidChange := ⟨a_xi_InvalidChange, i_xi_InvalidChange, k_xi_InvalidChange⟩
  have b_xi_InvalidChange := U_xi_InvalidChange.binds rfl (ps := ["self", "word"]) fun _ _ _ _ _ _ us hl => match us, hl with | [_, _], _ => rfl
  have U_xi_InvalidHouse : C8.Fun K "__init__" "InvalidHouse.__init__" s_xi_InvalidHouse f_xi_InvalidHouse (PySem.W.fnOf "__init__" "InvalidHouse.__init__" (C8.fnArgs s_xi_InvalidHouse) (C8.fnBody s_xi_InvalidHouse) (C8.fnScope s_xi_InvalidHouse) .none kV_xi_InvalidHouse dc_xi_InvalidHouse pm_xi_InvalidHouse an_xi_InvalidHouse cd_xi_InvalidHouse ct_xi_InvalidHouse) := ⟨oc_xi_InvalidHouse, od_xi_InvalidHouse, .none, kV_xi_InvalidHouse, dc_xi_InvalidHouse, pm_xi_InvalidHouse, an_xi_InvalidHouse, cd_xi_InvalidHouse, ct_xi_InvalidHouse, sl_xi_InvalidHouse, rfl, l_xi_InvalidHouse, c_xi_InvalidHouse⟩
  have me_xi_InvalidHouse : Meth K C_InvalidHouse "__init__" f_xi_InvalidHouse := ⟨a_xi_InvalidHouse, i_xi_InvalidHouse, k_xi_InvalidHouse⟩
  have b_xi_InvalidHouse := U_xi_InvalidHouse.binds rfl (ps := ["self", "word"]) fun _ _ _ _ _ _ us hl => match us, hl with | [_, _], _ => rfl
  have U_xi_InvalidCondition : C8.Fun K "__init__" "InvalidCondition.__init__" s_xi_InvalidCondition f_xi_InvalidCondition (PySem.W.fnOf "__init__" "InvalidCondition.__init__" (C8.fnArgs s_xi_InvalidCondition) (C8.fnBody s_xi_InvalidCondition) (C8.fnScope s_xi_InvalidCondition) .none kV_xi_InvalidCondition dc_xi_InvalidCondition pm_xi_InvalidCondition an_xi_InvalidCondition cd_xi_InvalidCondition ct_xi_InvalidCondition) := ⟨oc_xi_InvalidCondition, od_xi_InvalidCondition, .none, kV_xi_InvalidCondition, dc_xi_InvalidCondition, pm_xi_InvalidCondition, an_xi_InvalidCondition, cd_xi_InvalidCondition, ct_xi_InvalidCondition, sl_xi_InvalidCondition, rfl, l_xi_InvalidCondition, c_xi_InvalidCondition⟩
  have me_xi_InvalidCondition : Meth K C_InvalidCondition "__init__" f_xi_InvalidCondition := ⟨a_xi_InvalidCondition, i_xi_InvalidCondition, k_xi_InvalidCondition⟩
  have b_xi_InvalidCondition := U_xi_InvalidCondition.binds rfl (ps := ["self", "word"]) fun _ _ _ _ _ _ us hl => match us, hl with | [_, _], _ => rfl
  have U_xi_InvalidSaying : C8.Fun K "__init__" "InvalidSaying.__init__" s_xi_InvalidSaying f_xi_InvalidSaying (PySem.W.fnOf "__init__" "InvalidSaying.__init__" (C8.fnArgs s_xi_InvalidSaying) (C8.fnBody s_xi_InvalidSaying) (C8.fnScope s_xi_InvalidSaying) .none kV_xi_InvalidSaying dc_xi_InvalidSaying pm_xi_InvalidSaying an_xi_InvalidSaying cd_xi_InvalidSaying ct_xi_InvalidSaying) := ⟨oc_xi_InvalidSaying, od_xi_InvalidSaying, .none, kV_xi_InvalidSaying, dc_xi_InvalidSaying, pm_xi_InvalidSaying, an_xi_InvalidSaying, cd_xi_InvalidSaying, ct_xi_InvalidSaying, sl_xi_InvalidSaying, rfl, l_xi_InvalidSaying, c_xi_InvalidSaying⟩
  have me_xi_InvalidSaying : Meth K C_InvalidSaying "__init__" f_xi_InvalidSaying := ⟨a_xi_InvalidSaying, i_xi_InvalidSaying, k_xi_InvalidSaying⟩
  have b_xi_InvalidSaying := U_xi_InvalidSaying.binds rfl (ps := ["self", "word"]) fun _ _ _ _ _ _ us hl => match us, hl with | [_, _], _ => rfl
  have U_xi_InvalidSight : C8.Fun K "__init__" "InvalidSight.__init__" s_xi_InvalidSight f_xi_InvalidSight (PySem.W.fnOf "__init__" "InvalidSight.__init__" (C8.fnArgs s_xi_InvalidSight) (C8.fnBody s_xi_InvalidSight) (C8.fnScope s_xi_InvalidSight) .none kV_xi_InvalidSight dc_xi_InvalidSight pm_xi_InvalidSight an_xi_InvalidSight cd_xi_InvalidSight ct_xi_InvalidSight) := ⟨oc_xi_InvalidSight, od_xi_InvalidSight, .none, kV_xi_InvalidSight, dc_xi_InvalidSight, pm_xi_InvalidSight, an_xi_InvalidSight, cd_xi_InvalidSight, ct_xi_InvalidSight, sl_xi_InvalidSight, rfl, l_xi_InvalidSight, c_xi_InvalidSight⟩
  have me_xi_InvalidSight : Meth K C_InvalidSight "__init__" f_xi_InvalidSight := ⟨a_xi_InvalidSight, i_xi_InvalidSight, k_xi_InvalidSight⟩
  have b_xi_InvalidSight := U_xi_InvalidSight.binds rfl (ps := ["self", "word"]) fun _ _ _ _ _ _ us hl => match us, hl with | [_, _], _ => rfl
  have U_xi_InvalidCount : C8.Fun K "__init__" "InvalidCount.__init__" s_xi_InvalidCount f_xi_InvalidCount (PySem.W.fnOf "__init__" "InvalidCount.__init__" (C8.fnArgs s_xi_InvalidCount) (C8.fnBody s_xi_InvalidCount) (C8.fnScope s_xi_InvalidCount) .none kV_xi_InvalidCount dc_xi_InvalidCount pm_xi_InvalidCount an_xi_InvalidCount cd_xi_InvalidCount ct_xi_InvalidCount) := ⟨oc_xi_InvalidCount, od_xi_InvalidCount, .none, kV_xi_InvalidCount, dc_xi_InvalidCount, pm_xi_InvalidCount, an_xi_InvalidCount, cd_xi_InvalidCount, ct_xi_InvalidCount, sl_xi_InvalidCount, rfl, l_xi_InvalidCount, c_xi_InvalidCount⟩
  have me_xi_InvalidCount : Meth K C_InvalidCount "__init__" f_xi_InvalidCount := ⟨a_xi_InvalidCount, i_xi_InvalidCount, k_xi_InvalidCount⟩
  have b_xi_InvalidCount := U_xi_InvalidCount.binds rfl (ps := ["self", "word"]) fun _ _ _ _ _ _ us hl => match us, hl with | [_, _], _ => rfl
  have U_xi_InvalidSum : C8.Fun K "__init__" "InvalidSum.__init__" s_xi_InvalidSum f_xi_InvalidSum (PySem.W.fnOf "__init__" "InvalidSum.__init__" (C8.fnArgs s_xi_InvalidSum) (C8.fnBody s_xi_InvalidSum) (C8.fnScope s_xi_InvalidSum) .none kV_xi_InvalidSum dc_xi_InvalidSum pm_xi_InvalidSum an_xi_InvalidSum cd_xi_InvalidSum ct_xi_InvalidSum) := ⟨oc_xi_InvalidSum, od_xi_InvalidSum, .none, kV_xi_InvalidSum, dc_xi_InvalidSum, pm_xi_InvalidSum, an_xi_InvalidSum, cd_xi_InvalidSum, ct_xi_InvalidSum, sl_xi_InvalidSum, rfl, l_xi_InvalidSum, c_xi_InvalidSum⟩
  have me_xi_InvalidSum : Meth K C_InvalidSum "__init__" f_xi_InvalidSum := ⟨a_xi_InvalidSum, i_xi_InvalidSum, k_xi_InvalidSum⟩
  have b_xi_InvalidSum := U_xi_InvalidSum.binds rfl (ps := ["self", "word"]) fun _ _ _ _ _ _ us hl => match us, hl with | [_, _], _ => rfl
  have U_xi_InvalidRules : C8.Fun K "__init__" "InvalidRules.__init__" s_xi_InvalidRules f_xi_InvalidRules (PySem.W.fnOf "__init__" "InvalidRules.__init__" (C8.fnArgs s_xi_InvalidRules) (C8.fnBody s_xi_InvalidRules) (C8.fnScope s_xi_InvalidRules) .none kV_xi_InvalidRules dc_xi_InvalidRules pm_xi_InvalidRules an_xi_InvalidRules cd_xi_InvalidRules ct_xi_InvalidRules) := ⟨oc_xi_InvalidRules, od_xi_InvalidRules, .none, kV_xi_InvalidRules, dc_xi_InvalidRules, pm_xi_InvalidRules, an_xi_InvalidRules, cd_xi_InvalidRules, ct_xi_InvalidRules, sl_xi_InvalidRules, rfl, l_xi_InvalidRules, c_xi_InvalidRules⟩
  have me_xi_InvalidRules : Meth K C_InvalidRules "__init__" f_xi_InvalidRules := ⟨a_xi_InvalidRules, i_xi_InvalidRules, k_xi_InvalidRules⟩
  have b_xi_InvalidRules := U_xi_InvalidRules.binds rfl (ps := ["self", "word"]) fun _ _ _ _ _ _ us hl => match us, hl with | [_, _], _ => rfl
  have U_xi_InvalidBook : C8.Fun K "__init__" "InvalidBook.__init__" s_xi_InvalidBook f_xi_InvalidBook (PySem.W.fnOf "__init__" "InvalidBook.__init__" (C8.fnArgs s_xi_InvalidBook) (C8.fnBody s_xi_InvalidBook) (C8.fnScope s_xi_InvalidBook) .none kV_xi_InvalidBook dc_xi_InvalidBook pm_xi_InvalidBook an_xi_InvalidBook cd_xi_InvalidBook ct_xi_InvalidBook) := ⟨oc_xi_InvalidBook, od_xi_InvalidBook, .none, kV_xi_InvalidBook, dc_xi_InvalidBook, pm_xi_InvalidBook, an_xi_InvalidBook, cd_xi_InvalidBook, ct_xi_InvalidBook, sl_xi_InvalidBook, rfl, l_xi_InvalidBook, c_xi_InvalidBook⟩
  have me_xi_InvalidBook : Meth K C_InvalidBook "__init__" f_xi_InvalidBook := ⟨a_xi_InvalidBook, i_xi_InvalidBook, k_xi_InvalidBook⟩
  have b_xi_InvalidBook := U_xi_InvalidBook.binds rfl (ps := ["self", "word"]) fun _ _ _ _ _ _ us hl => match us, hl with | [_, _], _ => rfl
  have U_xi_InvalidTerm : C8.Fun K "__init__" "InvalidTerm.__init__" s_xi_InvalidTerm f_xi_InvalidTerm (PySem.W.fnOf "__init__" "InvalidTerm.__init__" (C8.fnArgs s_xi_InvalidTerm) (C8.fnBody s_xi_InvalidTerm) (C8.fnScope s_xi_InvalidTerm) .none kV_xi_InvalidTerm dc_xi_InvalidTerm pm_xi_InvalidTerm an_xi_InvalidTerm cd_xi_InvalidTerm ct_xi_InvalidTerm) := ⟨oc_xi_InvalidTerm, od_xi_InvalidTerm, .none, kV_xi_InvalidTerm, dc_xi_InvalidTerm, pm_xi_InvalidTerm, an_xi_InvalidTerm, cd_xi_InvalidTerm, ct_xi_InvalidTerm, sl_xi_InvalidTerm, rfl, l_xi_InvalidTerm, c_xi_InvalidTerm⟩
  have me_xi_InvalidTerm : Meth K C_InvalidTerm "__init__" f_xi_InvalidTerm := ⟨a_xi_InvalidTerm, i_xi_InvalidTerm, k_xi_InvalidTerm⟩
  have b_xi_InvalidTerm := U_xi_InvalidTerm.binds rfl (ps := ["self", "at"]) fun _ _ _ _ _ _ us hl => match us, hl with | [_, _], _ => rfl
  have U_xi_InvalidText : C8.Fun K "__init__" "InvalidText.__init__" s_xi_InvalidText f_xi_InvalidText (PySem.W.fnOf "__init__" "InvalidText.__init__" (C8.fnArgs s_xi_InvalidText) (C8.fnBody s_xi_InvalidText) (C8.fnScope s_xi_InvalidText) .none kV_xi_InvalidText dc_xi_InvalidText pm_xi_InvalidText an_xi_InvalidText cd_xi_InvalidText ct_xi_InvalidText) := ⟨oc_xi_InvalidText, od_xi_InvalidText, .none, kV_xi_InvalidText, dc_xi_InvalidText, pm_xi_InvalidText, an_xi_InvalidText, cd_xi_InvalidText, ct_xi_InvalidText, sl_xi_InvalidText, rfl, l_xi_InvalidText, c_xi_InvalidText⟩
  have me_xi_InvalidText : Meth K C_InvalidText "__init__" f_xi_InvalidText := ⟨a_xi_InvalidText, i_xi_InvalidText, k_xi_InvalidText⟩
  have b_xi_InvalidText := U_xi_InvalidText.binds rfl (ps := ["self", "at"]) fun _ _ _ _ _ _ us hl => match us, hl with | [_, _], _ => rfl
  have U_xi_Refused : C8.Fun K "__init__" "Refused.__init__" s_xi_Refused f_xi_Refused (PySem.W.fnOf "__init__" "Refused.__init__" (C8.fnArgs s_xi_Refused) (C8.fnBody s_xi_Refused) (C8.fnScope s_xi_Refused) .none kV_xi_Refused dc_xi_Refused pm_xi_Refused an_xi_Refused cd_xi_Refused ct_xi_Refused) := ⟨oc_xi_Refused, od_xi_Refused, .none, kV_xi_Refused, dc_xi_Refused, pm_xi_Refused, an_xi_Refused, cd_xi_Refused, ct_xi_Refused, sl_xi_Refused, rfl, l_xi_Refused, c_xi_Refused⟩
  have me_xi_Refused : Meth K C_Refused "__init__" f_xi_Refused := ⟨a_xi_Refused, i_xi_Refused, k_xi_Refused⟩
  have b_xi_Refused := U_xi_Refused.binds rfl (ps := ["self", "at"]) fun _ _ _ _ _ _ us hl => match us, hl with | [_, _], _ => rfl
  have U_xi_Bound : C8.Fun K "__init__" "Bound.__init__" s_xi_Bound f_xi_Bound (PySem.W.fnOf "__init__" "Bound.__init__" (C8.fnArgs s_xi_Bound) (C8.fnBody s_xi_Bound) (C8.fnScope s_xi_Bound) .none kV_xi_Bound dc_xi_Bound pm_xi_Bound an_xi_Bound cd_xi_Bound ct_xi_Bound) := ⟨oc_xi_Bound, od_xi_Bound, .none, kV_xi_Bound, dc_xi_Bound, pm_xi_Bound, an_xi_Bound, cd_xi_Bound, ct_xi_Bound, sl_xi_Bound, rfl, l_xi_Bound, c_xi_Bound⟩
  have me_xi_Bound : Meth K C_Bound "__init__" f_xi_Bound := ⟨a_xi_Bound, i_xi_Bound, k_xi_Bound⟩
  have b_xi_Bound := U_xi_Bound.binds rfl (ps := ["self", "name"]) fun _ _ _ _ _ _ us hl => match us, hl with | [_, _], _ => rfl
  have U_xi_NoRow : C8.Fun K "__init__" "NoRow.__init__" s_xi_NoRow f_xi_NoRow (PySem.W.fnOf "__init__" "NoRow.__init__" (C8.fnArgs s_xi_NoRow) (C8.fnBody s_xi_NoRow) (C8.fnScope s_xi_NoRow) .none kV_xi_NoRow dc_xi_NoRow pm_xi_NoRow an_xi_NoRow cd_xi_NoRow ct_xi_NoRow) := ⟨oc_xi_NoRow, od_xi_NoRow, .none, kV_xi_NoRow, dc_xi_NoRow, pm_xi_NoRow, an_xi_NoRow, cd_xi_NoRow, ct_xi_NoRow, sl_xi_NoRow, rfl, l_xi_NoRow, c_xi_NoRow⟩
  have me_xi_NoRow : Meth K C_NoRow "__init__" f_xi_NoRow := ⟨a_xi_NoRow, i_xi_NoRow, k_xi_NoRow⟩
  have b_xi_NoRow := U_xi_NoRow.binds rfl (ps := ["self", "name"]) fun _ _ _ _ _ _ us hl => match us, hl with | [_, _], _ => rfl
  have U_xi_NoName : C8.Fun K "__init__" "NoName.__init__" s_xi_NoName f_xi_NoName (PySem.W.fnOf "__init__" "NoName.__init__" (C8.fnArgs s_xi_NoName) (C8.fnBody s_xi_NoName) (C8.fnScope s_xi_NoName) .none kV_xi_NoName dc_xi_NoName pm_xi_NoName an_xi_NoName cd_xi_NoName ct_xi_NoName) := ⟨oc_xi_NoName, od_xi_NoName, .none, kV_xi_NoName, dc_xi_NoName, pm_xi_NoName, an_xi_NoName, cd_xi_NoName, ct_xi_NoName, sl_xi_NoName, rfl, l_xi_NoName, c_xi_NoName⟩
  have me_xi_NoName : Meth K C_NoName "__init__" f_xi_NoName := ⟨a_xi_NoName, i_xi_NoName, k_xi_NoName⟩
  have b_xi_NoName := U_xi_NoName.binds rfl (ps := ["self", "name"]) fun _ _ _ _ _ _ us hl => match us, hl with | [_, _], _ => rfl
  have U_xi_NoMark : C8.Fun K "__init__" "NoMark.__init__" s_xi_NoMark f_xi_NoMark (PySem.W.fnOf "__init__" "NoMark.__init__" (C8.fnArgs s_xi_NoMark) (C8.fnBody s_xi_NoMark) (C8.fnScope s_xi_NoMark) .none kV_xi_NoMark dc_xi_NoMark pm_xi_NoMark an_xi_NoMark cd_xi_NoMark ct_xi_NoMark) := ⟨oc_xi_NoMark, od_xi_NoMark, .none, kV_xi_NoMark, dc_xi_NoMark, pm_xi_NoMark, an_xi_NoMark, cd_xi_NoMark, ct_xi_NoMark, sl_xi_NoMark, rfl, l_xi_NoMark, c_xi_NoMark⟩
  have me_xi_NoMark : Meth K C_NoMark "__init__" f_xi_NoMark := ⟨a_xi_NoMark, i_xi_NoMark, k_xi_NoMark⟩
  have b_xi_NoMark := U_xi_NoMark.binds rfl (ps := ["self", "mark"]) fun _ _ _ _ _ _ us hl => match us, hl with | [_, _], _ => rfl
  have U_seed : C8.Fun K "_law_seed" "_law_seed" s_seed f_seed (PySem.W.fnOf "_law_seed" "_law_seed" (C8.fnArgs s_seed) (C8.fnBody s_seed) (C8.fnScope s_seed) .none kV_seed dc_seed pm_seed an_seed cd_seed ct_seed) := ⟨oc_seed, od_seed, .none, kV_seed, dc_seed, pm_seed, an_seed, cd_seed, ct_seed, sl_seed, rfl, l_seed, c_seed⟩
  have F_seed : C8.Def K mg "_law_seed" s_seed f_seed _ := ⟨U_seed, PySem.W.mg_of X G a_seed, k_seed⟩
  have b_seed := U_seed.binds rfl (ps := ["script", "k"]) fun _ _ _ _ _ _ us hl => match us, hl with | [_, _], _ => rfl
  have U_choose : C8.Fun K "_law_choose" "_law_choose" s_choose f_choose (PySem.W.fnOf "_law_choose" "_law_choose" (C8.fnArgs s_choose) (C8.fnBody s_choose) (C8.fnScope s_choose) .none kV_choose dc_choose pm_choose an_choose cd_choose ct_choose) := ⟨oc_choose, od_choose, .none, kV_choose, dc_choose, pm_choose, an_choose, cd_choose, ct_choose, sl_choose, rfl, l_choose, c_choose⟩
  have F_choose : C8.Def K mg "_law_choose" s_choose f_choose _ := ⟨U_choose, PySem.W.mg_of X G a_choose, k_choose⟩
  have b_choose := U_choose.binds rfl (ps := ["box", "many"]) fun _ _ _ _ _ _ us hl => match us, hl with | [_, _], _ => rfl
  have U_one_of : C8.Fun K "_law_one_of" "_law_one_of" s_one_of f_one_of (PySem.W.fnOf "_law_one_of" "_law_one_of" (C8.fnArgs s_one_of) (C8.fnBody s_one_of) (C8.fnScope s_one_of) .none kV_one_of dc_one_of pm_one_of an_one_of cd_one_of ct_one_of) := ⟨oc_one_of, od_one_of, .none, kV_one_of, dc_one_of, pm_one_of, an_one_of, cd_one_of, ct_one_of, sl_one_of, rfl, l_one_of, c_one_of⟩
  have F_one_of : C8.Def K mg "_law_one_of" s_one_of f_one_of _ := ⟨U_one_of, PySem.W.mg_of X G a_one_of, k_one_of⟩
  have b_one_of := U_one_of.binds rfl (ps := ["box", "some"]) fun _ _ _ _ _ _ us hl => match us, hl with | [_, _], _ => rfl
  have U_any : C8.Fun K "_law_any" "_law_any" s_any f_any (PySem.W.fnOf "_law_any" "_law_any" (C8.fnArgs s_any) (C8.fnBody s_any) (C8.fnScope s_any) .none kV_any dc_any pm_any an_any cd_any ct_any) := ⟨oc_any, od_any, .none, kV_any, dc_any, pm_any, an_any, cd_any, ct_any, sl_any, rfl, l_any, c_any⟩
  have F_any : C8.Def K mg "_law_any" s_any f_any _ := ⟨U_any, PySem.W.mg_of X G a_any, k_any⟩
  have b_any := U_any.binds rfl (ps := ["box", "deep"]) fun _ _ _ _ _ _ us hl => match us, hl with | [_, _], _ => rfl
  have U_words : C8.Fun K "_law_words" "_law_words" s_words f_words (PySem.W.fnOf "_law_words" "_law_words" (C8.fnArgs s_words) (C8.fnBody s_words) (C8.fnScope s_words) .none kV_words dc_words pm_words an_words cd_words ct_words) := ⟨oc_words, od_words, .none, kV_words, dc_words, pm_words, an_words, cd_words, ct_words, sl_words, rfl, l_words, c_words⟩
  have F_words : C8.Def K mg "_law_words" s_words f_words _ := ⟨U_words, PySem.W.mg_of X G a_words, k_words⟩
  have b_words := U_words.binds rfl (ps := ["value"]) fun _ _ _ _ _ _ us hl => match us, hl with | [_], _ => rfl
  have U_others : C8.Fun K "_law_others" "_law_others" s_others f_others (PySem.W.fnOf "_law_others" "_law_others" (C8.fnArgs s_others) (C8.fnBody s_others) (C8.fnScope s_others) .none kV_others dc_others pm_others an_others cd_others ct_others) := ⟨oc_others, od_others, .none, kV_others, dc_others, pm_others, an_others, cd_others, ct_others, sl_others, rfl, l_others, c_others⟩
  have F_others : C8.Def K mg "_law_others" s_others f_others _ := ⟨U_others, PySem.W.mg_of X G a_others, k_others⟩
  have b_others := U_others.binds rfl (ps := ["value"]) fun _ _ _ _ _ _ us hl => match us, hl with | [_], _ => rfl
  have U_marked : C8.Fun K "_law_marked" "_law_marked" s_marked f_marked (PySem.W.fnOf "_law_marked" "_law_marked" (C8.fnArgs s_marked) (C8.fnBody s_marked) (C8.fnScope s_marked) .none kV_marked dc_marked pm_marked an_marked cd_marked ct_marked) := ⟨oc_marked, od_marked, .none, kV_marked, dc_marked, pm_marked, an_marked, cd_marked, ct_marked, sl_marked, rfl, l_marked, c_marked⟩
  have F_marked : C8.Def K mg "_law_marked" s_marked f_marked _ := ⟨U_marked, PySem.W.mg_of X G a_marked, k_marked⟩
  have b_marked := U_marked.binds rfl (ps := ["value"]) fun _ _ _ _ _ _ us hl => match us, hl with | [_], _ => rfl
  have U_kinds : C8.Fun K "_law_kinds" "_law_kinds" s_kinds f_kinds (PySem.W.fnOf "_law_kinds" "_law_kinds" (C8.fnArgs s_kinds) (C8.fnBody s_kinds) (C8.fnScope s_kinds) .none kV_kinds dc_kinds pm_kinds an_kinds cd_kinds ct_kinds) := ⟨oc_kinds, od_kinds, .none, kV_kinds, dc_kinds, pm_kinds, an_kinds, cd_kinds, ct_kinds, sl_kinds, rfl, l_kinds, c_kinds⟩
  have F_kinds : C8.Def K mg "_law_kinds" s_kinds f_kinds _ := ⟨U_kinds, PySem.W.mg_of X G a_kinds, k_kinds⟩
  have b_kinds := U_kinds.binds rfl (ps := ["one"]) fun _ _ _ _ _ _ us hl => match us, hl with | [_], _ => rfl
  have U_law : C8.Fun K "law" "law" s_law fa (PySem.W.fnOf "law" "law" (C8.fnArgs s_law) (C8.fnBody s_law) (C8.fnScope s_law) .none kV_law dc_law pm_law an_law cd_law ct_law) := ⟨oc_law, od_law, .none, kV_law, dc_law, pm_law, an_law, cd_law, ct_law, sl_law, rfl, l_law, c_law⟩
  have F_law : C8.Def K mg "law" s_law fa _ := ⟨U_law, PySem.W.mg_of X G a_law, k_law⟩
  have b_law := U_law.binds rfl (ps := ["script"]) fun _ _ _ _ _ _ us hl => match us, hl with | [_], _ => rfl
  refine ⟨PySem.W.fnOf "law" "law" (C8.fnArgs s_law) (C8.fnBody s_law) (C8.fnScope s_law) .none kV_law dc_law pm_law an_law cd_law ct_law, fun s v => .of_eq rfl, fun base _ _ => ?_⟩
  have hall : ∀ C ∈ [C_InvalidReader, C_InvalidChange, C_InvalidHouse, C_InvalidCondition, C_InvalidSaying, C_InvalidSight, C_InvalidCount, C_InvalidSum, C_InvalidRules, C_InvalidBook, C_InvalidTerm, C_InvalidText, C_Refused, C_Bound, C_NoRow, C_InvalidRow, C_InvalidLot, C_InvalidWord, C_InvalidCommand, C_Mismatch, C_NoName, C_NoMark], XC K C := List.forall_mem_cons.mpr ⟨x_InvalidReader, List.forall_mem_cons.mpr ⟨x_InvalidChange, List.forall_mem_cons.mpr ⟨x_InvalidHouse, List.forall_mem_cons.mpr ⟨x_InvalidCondition, List.forall_mem_cons.mpr ⟨x_InvalidSaying, List.forall_mem_cons.mpr ⟨x_InvalidSight, List.forall_mem_cons.mpr ⟨x_InvalidCount, List.forall_mem_cons.mpr ⟨x_InvalidSum, List.forall_mem_cons.mpr ⟨x_InvalidRules, List.forall_mem_cons.mpr ⟨x_InvalidBook, List.forall_mem_cons.mpr ⟨x_InvalidTerm, List.forall_mem_cons.mpr ⟨x_InvalidText, List.forall_mem_cons.mpr ⟨x_Refused, List.forall_mem_cons.mpr ⟨x_Bound, List.forall_mem_cons.mpr ⟨x_NoRow, List.forall_mem_cons.mpr ⟨x_InvalidRow, List.forall_mem_cons.mpr ⟨x_InvalidLot, List.forall_mem_cons.mpr ⟨x_InvalidWord, List.forall_mem_cons.mpr ⟨x_InvalidCommand, List.forall_mem_cons.mpr ⟨x_Mismatch, List.forall_mem_cons.mpr ⟨x_NoName, List.forall_mem_cons.mpr ⟨x_NoMark, fun _ h => nomatch h⟩⟩⟩⟩⟩⟩⟩⟩⟩⟩⟩⟩⟩⟩⟩⟩⟩⟩⟩⟩⟩⟩
  have hat : ∀ i, i < 22 → XC K (([C_InvalidReader, C_InvalidChange, C_InvalidHouse, C_InvalidCondition, C_InvalidSaying, C_InvalidSight, C_InvalidCount, C_InvalidSum, C_InvalidRules, C_InvalidBook, C_InvalidTerm, C_InvalidText, C_Refused, C_Bound, C_NoRow, C_InvalidRow, C_InvalidLot, C_InvalidWord, C_InvalidCommand, C_Mismatch, C_NoName, C_NoMark] : List Addr).getD i 0) := fun i hi => hall _ (getD_mem hi)
  have kl : KL K [C_InvalidReader, C_InvalidChange, C_InvalidHouse, C_InvalidCondition, C_InvalidSaying, C_InvalidSight, C_InvalidCount, C_InvalidSum, C_InvalidRules, C_InvalidBook, C_InvalidTerm, C_InvalidText, C_Refused, C_Bound, C_NoRow, C_InvalidRow, C_InvalidLot, C_InvalidWord, C_InvalidCommand, C_Mismatch, C_NoName, C_NoMark] C_RowError := ⟨klb_kind klb, klb_row klb, klb_key klb, klb_val klb, fun i hi => (hat i hi).exc, fun i hi => ⟨(hat i (by omega)).xf, match i, hi with | 0, _ => xf_InvalidReader | 1, _ => xf_InvalidChange | 2, _ => xf_InvalidHouse | 3, _ => xf_InvalidCondition | 4, _ => xf_InvalidSaying | 5, _ => xf_InvalidSight | 6, _ => xf_InvalidCount | 7, _ => xf_InvalidSum | 8, _ => xf_InvalidRules | 9, _ => xf_InvalidBook⟩, fun i h1 h2 => ⟨(hat i (by omega)).xf, match i, h1, h2 with | 10, _, _ => xf_InvalidTerm | 11, _, _ => xf_InvalidText | 12, _, _ => xf_Refused⟩, fun i h => ⟨(hat i (by omega)).xf, by rcases h with rfl | rfl | rfl; exact xf_Bound; exact xf_NoRow; exact xf_NoName⟩, ⟨(hat 21 (by decide)).xf, xf_NoMark⟩⟩
  have c_InvalidReader := ok_xi_InvalidReader (P := l.prog) (w := w) (base := base) x_InvalidReader (PySem.W.mg_of X G xg_InvalidReader) xf_InvalidReader a_xi_InvalidReader (beq_iff_eq.mp i_xi_InvalidReader) U_xi_InvalidReader b_xi_InvalidReader ⟨fun s us ws X l1 l2 => match us, ws, l1, l2 with | [_], [_], _, _ => .of_eq rfl, fun r1 r2 => r1.append r2⟩
  have c_InvalidChange := ok_xi_InvalidChange (P := l.prog) (w := w) (base := base) x_InvalidChange (PySem.W.mg_of X G xg_InvalidChange) xf_InvalidChange a_xi_InvalidChange (beq_iff_eq.mp i_xi_InvalidChange) U_xi_InvalidChange b_xi_InvalidChange ⟨fun s us ws X l1 l2 => match us, ws, l1, l2 with | [_], [_], _, _ => .of_eq rfl, fun r1 r2 => r1.append r2⟩
  have c_InvalidHouse := ok_xi_InvalidHouse (P := l.prog) (w := w) (base := base) x_InvalidHouse (PySem.W.mg_of X G xg_InvalidHouse) xf_InvalidHouse a_xi_InvalidHouse (beq_iff_eq.mp i_xi_InvalidHouse) U_xi_InvalidHouse b_xi_InvalidHouse ⟨fun s us ws X l1 l2 => match us, ws, l1, l2 with | [_], [_], _, _ => .of_eq rfl, fun r1 r2 => r1.append r2⟩
  have c_InvalidCondition := ok_xi_InvalidCondition (P := l.prog) (w := w) (base := base) x_InvalidCondition (PySem.W.mg_of X G xg_InvalidCondition) xf_InvalidCondition a_xi_InvalidCondition (beq_iff_eq.mp i_xi_InvalidCondition) U_xi_InvalidCondition b_xi_InvalidCondition ⟨fun s us ws X l1 l2 => match us, ws, l1, l2 with | [_], [_], _, _ => .of_eq rfl, fun r1 r2 => r1.append r2⟩
  have c_InvalidSaying := ok_xi_InvalidSaying (P := l.prog) (w := w) (base := base) x_InvalidSaying (PySem.W.mg_of X G xg_InvalidSaying) xf_InvalidSaying a_xi_InvalidSaying (beq_iff_eq.mp i_xi_InvalidSaying) U_xi_InvalidSaying b_xi_InvalidSaying ⟨fun s us ws X l1 l2 => match us, ws, l1, l2 with | [_], [_], _, _ => .of_eq rfl, fun r1 r2 => r1.append r2⟩
  have c_InvalidSight := ok_xi_InvalidSight (P := l.prog) (w := w) (base := base) x_InvalidSight (PySem.W.mg_of X G xg_InvalidSight) xf_InvalidSight a_xi_InvalidSight (beq_iff_eq.mp i_xi_InvalidSight) U_xi_InvalidSight b_xi_InvalidSight ⟨fun s us ws X l1 l2 => match us, ws, l1, l2 with | [_], [_], _, _ => .of_eq rfl, fun r1 r2 => r1.append r2⟩
  have c_InvalidCount := ok_xi_InvalidCount (P := l.prog) (w := w) (base := base) x_InvalidCount (PySem.W.mg_of X G xg_InvalidCount) xf_InvalidCount a_xi_InvalidCount (beq_iff_eq.mp i_xi_InvalidCount) U_xi_InvalidCount b_xi_InvalidCount ⟨fun s us ws X l1 l2 => match us, ws, l1, l2 with | [_], [_], _, _ => .of_eq rfl, fun r1 r2 => r1.append r2⟩
  have c_InvalidSum := ok_xi_InvalidSum (P := l.prog) (w := w) (base := base) x_InvalidSum (PySem.W.mg_of X G xg_InvalidSum) xf_InvalidSum a_xi_InvalidSum (beq_iff_eq.mp i_xi_InvalidSum) U_xi_InvalidSum b_xi_InvalidSum ⟨fun s us ws X l1 l2 => match us, ws, l1, l2 with | [_], [_], _, _ => .of_eq rfl, fun r1 r2 => r1.append r2⟩
  have c_InvalidRules := ok_xi_InvalidRules (P := l.prog) (w := w) (base := base) x_InvalidRules (PySem.W.mg_of X G xg_InvalidRules) xf_InvalidRules a_xi_InvalidRules (beq_iff_eq.mp i_xi_InvalidRules) U_xi_InvalidRules b_xi_InvalidRules ⟨fun s us ws X l1 l2 => match us, ws, l1, l2 with | [_], [_], _, _ => .of_eq rfl, fun r1 r2 => r1.append r2⟩
  have c_InvalidBook := ok_xi_InvalidBook (P := l.prog) (w := w) (base := base) x_InvalidBook (PySem.W.mg_of X G xg_InvalidBook) xf_InvalidBook a_xi_InvalidBook (beq_iff_eq.mp i_xi_InvalidBook) U_xi_InvalidBook b_xi_InvalidBook ⟨fun s us ws X l1 l2 => match us, ws, l1, l2 with | [_], [_], _, _ => .of_eq rfl, fun r1 r2 => r1.append r2⟩
  have c_InvalidTerm := ok_xi_InvalidTerm (P := l.prog) (w := w) (base := base) x_InvalidTerm (PySem.W.mg_of X G xg_InvalidTerm) xf_InvalidTerm a_xi_InvalidTerm (beq_iff_eq.mp i_xi_InvalidTerm) U_xi_InvalidTerm b_xi_InvalidTerm ⟨fun s us ws X l1 l2 => match us, ws, l1, l2 with | [_], [_], _, _ => .of_eq rfl, fun r1 r2 => r1.append r2⟩
  have c_InvalidText := ok_xi_InvalidText (P := l.prog) (w := w) (base := base) x_InvalidText (PySem.W.mg_of X G xg_InvalidText) xf_InvalidText a_xi_InvalidText (beq_iff_eq.mp i_xi_InvalidText) U_xi_InvalidText b_xi_InvalidText ⟨fun s us ws X l1 l2 => match us, ws, l1, l2 with | [_], [_], _, _ => .of_eq rfl, fun r1 r2 => r1.append r2⟩
  have c_Refused := ok_xi_Refused (P := l.prog) (w := w) (base := base) x_Refused (PySem.W.mg_of X G xg_Refused) xf_Refused a_xi_Refused (beq_iff_eq.mp i_xi_Refused) U_xi_Refused b_xi_Refused ⟨fun s us ws X l1 l2 => match us, ws, l1, l2 with | [_], [_], _, _ => .of_eq rfl, fun r1 r2 => r1.append r2⟩
  have c_Bound := ok_xi_Bound (P := l.prog) (w := w) (base := base) x_Bound (PySem.W.mg_of X G xg_Bound) xf_Bound a_xi_Bound (beq_iff_eq.mp i_xi_Bound) U_xi_Bound b_xi_Bound ⟨fun s us ws X l1 l2 => match us, ws, l1, l2 with | [_], [_], _, _ => .of_eq rfl, fun r1 r2 => r1.append r2⟩
  have c_NoRow := ok_xi_NoRow (P := l.prog) (w := w) (base := base) x_NoRow (PySem.W.mg_of X G xg_NoRow) xf_NoRow a_xi_NoRow (beq_iff_eq.mp i_xi_NoRow) U_xi_NoRow b_xi_NoRow ⟨fun s us ws X l1 l2 => match us, ws, l1, l2 with | [_], [_], _, _ => .of_eq rfl, fun r1 r2 => r1.append r2⟩
  have c_NoName := ok_xi_NoName (P := l.prog) (w := w) (base := base) x_NoName (PySem.W.mg_of X G xg_NoName) xf_NoName a_xi_NoName (beq_iff_eq.mp i_xi_NoName) U_xi_NoName b_xi_NoName ⟨fun s us ws X l1 l2 => match us, ws, l1, l2 with | [_], [_], _, _ => .of_eq rfl, fun r1 r2 => r1.append r2⟩
  have c_NoMark := ok_xi_NoMark (P := l.prog) (w := w) (base := base) x_NoMark (PySem.W.mg_of X G xg_NoMark) xf_NoMark a_xi_NoMark (beq_iff_eq.mp i_xi_NoMark) U_xi_NoMark b_xi_NoMark ⟨fun s us ws X l1 l2 => match us, ws, l1, l2 with | [_], [_], _, _ => .of_eq rfl, fun r1 r2 => r1.append r2⟩
  have g_InvalidReader : XG mg "InvalidReader" C_InvalidReader := ⟨PySem.W.mg_of X G xg_InvalidReader⟩
  have g_InvalidChange : XG mg "InvalidChange" C_InvalidChange := ⟨PySem.W.mg_of X G xg_InvalidChange⟩
  have g_InvalidHouse : XG mg "InvalidHouse" C_InvalidHouse := ⟨PySem.W.mg_of X G xg_InvalidHouse⟩
  have g_InvalidCondition : XG mg "InvalidCondition" C_InvalidCondition := ⟨PySem.W.mg_of X G xg_InvalidCondition⟩
  have g_InvalidSaying : XG mg "InvalidSaying" C_InvalidSaying := ⟨PySem.W.mg_of X G xg_InvalidSaying⟩
  have g_InvalidSight : XG mg "InvalidSight" C_InvalidSight := ⟨PySem.W.mg_of X G xg_InvalidSight⟩
  have g_InvalidCount : XG mg "InvalidCount" C_InvalidCount := ⟨PySem.W.mg_of X G xg_InvalidCount⟩
  have g_InvalidSum : XG mg "InvalidSum" C_InvalidSum := ⟨PySem.W.mg_of X G xg_InvalidSum⟩
  have g_InvalidRules : XG mg "InvalidRules" C_InvalidRules := ⟨PySem.W.mg_of X G xg_InvalidRules⟩
  have g_InvalidBook : XG mg "InvalidBook" C_InvalidBook := ⟨PySem.W.mg_of X G xg_InvalidBook⟩
  have g_InvalidTerm : XG mg "InvalidTerm" C_InvalidTerm := ⟨PySem.W.mg_of X G xg_InvalidTerm⟩
  have g_InvalidText : XG mg "InvalidText" C_InvalidText := ⟨PySem.W.mg_of X G xg_InvalidText⟩
  have g_Refused : XG mg "Refused" C_Refused := ⟨PySem.W.mg_of X G xg_Refused⟩
  have g_Bound : XG mg "Bound" C_Bound := ⟨PySem.W.mg_of X G xg_Bound⟩
  have g_NoRow : XG mg "NoRow" C_NoRow := ⟨PySem.W.mg_of X G xg_NoRow⟩
  have g_InvalidRow : XG mg "InvalidRow" C_InvalidRow := ⟨PySem.W.mg_of X G xg_InvalidRow⟩
  have g_InvalidLot : XG mg "InvalidLot" C_InvalidLot := ⟨PySem.W.mg_of X G xg_InvalidLot⟩
  have g_InvalidWord : XG mg "InvalidWord" C_InvalidWord := ⟨PySem.W.mg_of X G xg_InvalidWord⟩
  have g_InvalidCommand : XG mg "InvalidCommand" C_InvalidCommand := ⟨PySem.W.mg_of X G xg_InvalidCommand⟩
  have g_Mismatch : XG mg "Mismatch" C_Mismatch := ⟨PySem.W.mg_of X G xg_Mismatch⟩
  have g_NoName : XG mg "NoName" C_NoName := ⟨PySem.W.mg_of X G xg_NoName⟩
  have g_NoMark : XG mg "NoMark" C_NoMark := ⟨PySem.W.mg_of X G xg_NoMark⟩
  have g_RowError : XG mg "RowError" C_RowError := ⟨PySem.W.mg_of X G xg_RowError⟩
  have v_InvalidRow : XV K mg "InvalidRow" C_InvalidRow := ⟨xe_InvalidRow, PySem.W.mg_of X G xg_InvalidRow, x_InvalidRow.kC⟩
  have v_InvalidLot : XV K mg "InvalidLot" C_InvalidLot := ⟨xe_InvalidLot, PySem.W.mg_of X G xg_InvalidLot, x_InvalidLot.kC⟩
  have v_InvalidWord : XV K mg "InvalidWord" C_InvalidWord := ⟨xe_InvalidWord, PySem.W.mg_of X G xg_InvalidWord, x_InvalidWord.kC⟩
  have v_InvalidCommand : XV K mg "InvalidCommand" C_InvalidCommand := ⟨xe_InvalidCommand, PySem.W.mg_of X G xg_InvalidCommand, x_InvalidCommand.kC⟩
  have v_Mismatch : XV K mg "Mismatch" C_Mismatch := ⟨xe_Mismatch, PySem.W.mg_of X G xg_Mismatch, x_Mismatch.kC⟩
  have c_seed := ok_seed (P := l.prog) (w := w) (base := base) T F_seed b_seed
  have c_choose := ok_choose (P := l.prog) (w := w) (base := base) T F_choose b_choose
  have c_one_of := ok_one T c_choose F_one_of b_one_of
  have c_any := ok_any T c_choose c_one_of F_any b_any 5
  have c_words := ok_words T kl c_InvalidReader c_InvalidChange c_InvalidHouse c_InvalidCondition c_InvalidSaying c_InvalidSight c_InvalidCount c_InvalidSum c_InvalidRules c_InvalidBook F_words b_words
  have c_marked := ok_marked T kl c_NoMark F_marked b_marked
  have c_others := ok_others T kl c_InvalidTerm c_InvalidText c_Refused c_Bound c_NoRow c_NoName c_marked F_others b_others
  have c_kinds := ok_kinds (P := l.prog) (w := w) (base := base) T kl g_InvalidReader g_InvalidChange g_InvalidHouse g_InvalidCondition g_InvalidSaying g_InvalidSight g_InvalidCount g_InvalidSum g_InvalidRules g_InvalidBook g_InvalidTerm g_InvalidText g_Refused g_Bound g_NoRow g_InvalidRow g_InvalidLot g_InvalidWord g_InvalidCommand g_Mismatch g_NoName g_NoMark F_kinds b_kinds
  exact ok_law T kl (PySem.W.mg_none_of X G z_KeyError) (PySem.W.mg_none_of X G z_ValueError) g_RowError v_InvalidRow v_InvalidLot v_InvalidWord v_InvalidCommand v_Mismatch c_seed c_any c_words c_others c_kinds F_law
theorem walk {l : PySem.W.OpenLaw} {q : Program} {loose : List Str} {XP : (Str → Option Value) → Heap → Prop} {YP : World → Heap → Prop} {d : DefRec} {K : Params → PySem.W.Frag} (hn : l.most = some 63) (hdf : d.params.defaults = [])
    (hY : ∀ (w : World) (h : Heap), YP w h → (K w.params).In h)
    (F : ∀ (w : World) (mg : Str → Option Value) (fa : Addr) (h : Heap), (K w.params).In h → h.Ns mainGlobals mg → mg d.name = some (.ref fa) →
      ∃ fd : FuncData, (∀ (s : Shared) (u : Value), BindsTo s fd ⟨[u], []⟩ [("script", u)]) ∧ ∀ base : Heap, (K w.params).In base → base.Ns mainGlobals mg → FnG l.prog w (K w.params) mg base 9 fa fd ["script"] (spLaw (K w.params))) :
    PySem.W.WalkO q loose XP YP l.row.toRowW d [] (fun f vs => PySem.call f vs) :=
  walkG (n := 63) (k := 9) (x := "script") (sp := fun K => spLaw K) hn (by decide) hdf ⟨rfl, by decide, by decide⟩ hY F fun _ _ a ns hl _ hS => ⟨a, ns, rfl, hS, hl, fun _ => rfl⟩
end Toy
open PySem PySem.W PyProof.Rows in
set_option maxRecDepth 100000 in
set_option maxHeartbeats 0 in
theorem PySem.Challenge.cw_allrows_k01_errors_and_what_they_keep_holds : PySem.Challenge.rw_allrows_k01_errors_and_what_they_keep.Holds := by
  w_on; o_law; k_head; (case hw => w_witness2)
  k_fill
  refine Toy.walk (l := PySem.Challenge.rw_allrows_k01_errors_and_what_they_keep) rfl rfl (fun w h Y => PySem.W.kIn_of Y) ?F
  case F =>
    intro w mg fa h KX G hmg
    refine' Toy.all_mk KX G hmg ?xg_InvalidReader ?xg_InvalidChange ?xg_InvalidHouse ?xg_InvalidCondition ?xg_InvalidSaying ?xg_InvalidSight ?xg_InvalidCount ?xg_InvalidSum ?xg_InvalidRules ?xg_InvalidBook ?xg_InvalidTerm ?xg_InvalidText ?xg_Refused ?xg_Bound ?xg_NoRow ?xg_InvalidRow ?xg_InvalidLot ?xg_InvalidWord ?xg_InvalidCommand ?xg_Mismatch ?xg_NoName ?xg_NoMark ?xg_RowError ?x_InvalidReader ?x_InvalidChange ?x_InvalidHouse ?x_InvalidCondition ?x_InvalidSaying ?x_InvalidSight ?x_InvalidCount ?x_InvalidSum ?x_InvalidRules ?x_InvalidBook ?x_InvalidTerm ?x_InvalidText ?x_Refused ?x_Bound ?x_NoRow ?x_InvalidRow ?x_InvalidLot ?x_InvalidWord ?x_InvalidCommand ?x_Mismatch ?x_NoName ?x_NoMark ?xf_InvalidReader ?xf_InvalidChange ?xf_InvalidHouse ?xf_InvalidCondition ?xf_InvalidSaying ?xf_InvalidSight ?xf_InvalidCount ?xf_InvalidSum ?xf_InvalidRules ?xf_InvalidBook ?xf_InvalidTerm ?xf_InvalidText ?xf_Refused ?xf_Bound ?xf_NoRow ?xf_NoName ?xf_NoMark ?xe_InvalidRow ?xe_InvalidLot ?xe_InvalidWord ?xe_InvalidCommand ?xe_Mismatch ?klb ?z_KeyError ?z_ValueError ?a_xi_InvalidReader ?i_xi_InvalidReader ?l_xi_InvalidReader ?c_xi_InvalidReader ?k_xi_InvalidReader ?a_xi_InvalidChange ?i_xi_InvalidChange ?l_xi_InvalidChange ?c_xi_InvalidChange ?k_xi_InvalidChange ?a_xi_InvalidHouse ?i_xi_InvalidHouse ?l_xi_InvalidHouse ?c_xi_InvalidHouse ?k_xi_InvalidHouse ?a_xi_InvalidCondition ?i_xi_InvalidCondition ?l_xi_InvalidCondition ?c_xi_InvalidCondition ?k_xi_InvalidCondition ?a_xi_InvalidSaying ?i_xi_InvalidSaying ?l_xi_InvalidSaying ?c_xi_InvalidSaying ?k_xi_InvalidSaying ?a_xi_InvalidSight ?i_xi_InvalidSight ?l_xi_InvalidSight ?c_xi_InvalidSight ?k_xi_InvalidSight ?a_xi_InvalidCount ?i_xi_InvalidCount ?l_xi_InvalidCount ?c_xi_InvalidCount ?k_xi_InvalidCount ?a_xi_InvalidSum ?i_xi_InvalidSum ?l_xi_InvalidSum ?c_xi_InvalidSum ?k_xi_InvalidSum ?a_xi_InvalidRules ?i_xi_InvalidRules ?l_xi_InvalidRules ?c_xi_InvalidRules ?k_xi_InvalidRules ?a_xi_InvalidBook ?i_xi_InvalidBook ?l_xi_InvalidBook ?c_xi_InvalidBook ?k_xi_InvalidBook ?a_xi_InvalidTerm ?i_xi_InvalidTerm ?l_xi_InvalidTerm ?c_xi_InvalidTerm ?k_xi_InvalidTerm ?a_xi_InvalidText ?i_xi_InvalidText ?l_xi_InvalidText ?c_xi_InvalidText ?k_xi_InvalidText ?a_xi_Refused ?i_xi_Refused ?l_xi_Refused ?c_xi_Refused ?k_xi_Refused ?a_xi_Bound ?i_xi_Bound ?l_xi_Bound ?c_xi_Bound ?k_xi_Bound ?a_xi_NoRow ?i_xi_NoRow ?l_xi_NoRow ?c_xi_NoRow ?k_xi_NoRow ?a_xi_NoName ?i_xi_NoName ?l_xi_NoName ?c_xi_NoName ?k_xi_NoName ?a_xi_NoMark ?i_xi_NoMark ?l_xi_NoMark ?c_xi_NoMark ?k_xi_NoMark ?a_seed ?l_seed ?c_seed ?k_seed ?a_choose ?l_choose ?c_choose ?k_choose ?a_one_of ?l_one_of ?c_one_of ?k_one_of ?a_any ?l_any ?c_any ?k_any ?a_words ?l_words ?c_words ?k_words ?a_others ?l_others ?c_others ?k_others ?a_marked ?l_marked ?c_marked ?k_marked ?a_kinds ?l_kinds ?c_kinds ?k_kinds ?a_law ?l_law ?c_law ?k_law ?z_int ?z_len ?z_abs ?z_tuple ?z_list ?z_isinstance ?z_range ?z_max ?z_min ?z_repr
    (case xg_InvalidReader => k_is)
    (case xg_InvalidChange => k_is)
    (case xg_InvalidHouse => k_is)
    (case xg_InvalidCondition => k_is)
    (case xg_InvalidSaying => k_is)
    (case xg_InvalidSight => k_is)
    (case xg_InvalidCount => k_is)
    (case xg_InvalidSum => k_is)
    (case xg_InvalidRules => k_is)
    (case xg_InvalidBook => k_is)
    (case xg_InvalidTerm => k_is)
    (case xg_InvalidText => k_is)
    (case xg_Refused => k_is)
    (case xg_Bound => k_is)
    (case xg_NoRow => k_is)
    (case xg_InvalidRow => k_is)
    (case xg_InvalidLot => k_is)
    (case xg_InvalidWord => k_is)
    (case xg_InvalidCommand => k_is)
    (case xg_Mismatch => k_is)
    (case xg_NoName => k_is)
    (case xg_NoMark => k_is)
    (case xg_RowError => k_is)
    (case x_InvalidReader => exact LX.XC.ve (by show PySem.W.excInitIn _ _ [.type "ValueError", .type "Exception", .type "BaseException", .type "object"] "ValueError.__new__" = true; kx_is) (by k_is) (by k_is) (by k_is) (by k_is) (by k_is) (by k_is) (by k_is) (by k_is) (by k_is) (by k_is) (by k_is))
    (case x_InvalidChange => exact LX.XC.ve (by show PySem.W.excInitIn _ _ [.type "ValueError", .type "Exception", .type "BaseException", .type "object"] "ValueError.__new__" = true; kx_is) (by k_is) (by k_is) (by k_is) (by k_is) (by k_is) (by k_is) (by k_is) (by k_is) (by k_is) (by k_is) (by k_is))
    (case x_InvalidHouse => exact LX.XC.ve (by show PySem.W.excInitIn _ _ [.type "ValueError", .type "Exception", .type "BaseException", .type "object"] "ValueError.__new__" = true; kx_is) (by k_is) (by k_is) (by k_is) (by k_is) (by k_is) (by k_is) (by k_is) (by k_is) (by k_is) (by k_is) (by k_is))
    (case x_InvalidCondition => exact LX.XC.ve (by show PySem.W.excInitIn _ _ [.type "ValueError", .type "Exception", .type "BaseException", .type "object"] "ValueError.__new__" = true; kx_is) (by k_is) (by k_is) (by k_is) (by k_is) (by k_is) (by k_is) (by k_is) (by k_is) (by k_is) (by k_is) (by k_is))
    (case x_InvalidSaying => exact LX.XC.ve (by show PySem.W.excInitIn _ _ [.type "ValueError", .type "Exception", .type "BaseException", .type "object"] "ValueError.__new__" = true; kx_is) (by k_is) (by k_is) (by k_is) (by k_is) (by k_is) (by k_is) (by k_is) (by k_is) (by k_is) (by k_is) (by k_is))
    (case x_InvalidSight => exact LX.XC.ve (by show PySem.W.excInitIn _ _ [.type "ValueError", .type "Exception", .type "BaseException", .type "object"] "ValueError.__new__" = true; kx_is) (by k_is) (by k_is) (by k_is) (by k_is) (by k_is) (by k_is) (by k_is) (by k_is) (by k_is) (by k_is) (by k_is))
    (case x_InvalidCount => exact LX.XC.ve (by show PySem.W.excInitIn _ _ [.type "ValueError", .type "Exception", .type "BaseException", .type "object"] "ValueError.__new__" = true; kx_is) (by k_is) (by k_is) (by k_is) (by k_is) (by k_is) (by k_is) (by k_is) (by k_is) (by k_is) (by k_is) (by k_is))
    (case x_InvalidSum => exact LX.XC.ve (by show PySem.W.excInitIn _ _ [.type "ValueError", .type "Exception", .type "BaseException", .type "object"] "ValueError.__new__" = true; kx_is) (by k_is) (by k_is) (by k_is) (by k_is) (by k_is) (by k_is) (by k_is) (by k_is) (by k_is) (by k_is) (by k_is))
    (case x_InvalidRules => exact LX.XC.ve (by show PySem.W.excInitIn _ _ [.type "ValueError", .type "Exception", .type "BaseException", .type "object"] "ValueError.__new__" = true; kx_is) (by k_is) (by k_is) (by k_is) (by k_is) (by k_is) (by k_is) (by k_is) (by k_is) (by k_is) (by k_is) (by k_is))
    (case x_InvalidBook => exact LX.XC.ve (by show PySem.W.excInitIn _ _ [.type "ValueError", .type "Exception", .type "BaseException", .type "object"] "ValueError.__new__" = true; kx_is) (by k_is) (by k_is) (by k_is) (by k_is) (by k_is) (by k_is) (by k_is) (by k_is) (by k_is) (by k_is) (by k_is))
    (case x_InvalidTerm => exact LX.XC.ve (by show PySem.W.excInitIn _ _ [.type "ValueError", .type "Exception", .type "BaseException", .type "object"] "ValueError.__new__" = true; kx_is) (by k_is) (by k_is) (by k_is) (by k_is) (by k_is) (by k_is) (by k_is) (by k_is) (by k_is) (by k_is) (by k_is))
    (case x_InvalidText => exact LX.XC.ve (by show PySem.W.excInitIn _ _ [.type "ValueError", .type "Exception", .type "BaseException", .type "object"] "ValueError.__new__" = true; kx_is) (by k_is) (by k_is) (by k_is) (by k_is) (by k_is) (by k_is) (by k_is) (by k_is) (by k_is) (by k_is) (by k_is))
    (case x_Refused => exact LX.XC.ve (by show PySem.W.excInitIn _ _ [.type "ValueError", .type "Exception", .type "BaseException", .type "object"] "ValueError.__new__" = true; kx_is) (by k_is) (by k_is) (by k_is) (by k_is) (by k_is) (by k_is) (by k_is) (by k_is) (by k_is) (by k_is) (by k_is))
    (case x_Bound => exact LX.XC.ve (by show PySem.W.excInitIn _ _ [.type "ValueError", .type "Exception", .type "BaseException", .type "object"] "ValueError.__new__" = true; kx_is) (by k_is) (by k_is) (by k_is) (by k_is) (by k_is) (by k_is) (by k_is) (by k_is) (by k_is) (by k_is) (by k_is))
    (case x_NoRow => exact LX.XC.ve (by show PySem.W.excInitIn _ _ [.type "ValueError", .type "Exception", .type "BaseException", .type "object"] "ValueError.__new__" = true; kx_is) (by k_is) (by k_is) (by k_is) (by k_is) (by k_is) (by k_is) (by k_is) (by k_is) (by k_is) (by k_is) (by k_is))
    (case x_InvalidRow => exact LX.XC.ve (by show PySem.W.excInitIn _ _ [.type "ValueError", .type "Exception", .type "BaseException", .type "object"] "ValueError.__new__" = true; kx_is) (by k_is) (by k_is) (by k_is) (by k_is) (by k_is) (by k_is) (by k_is) (by k_is) (by k_is) (by k_is) (by k_is))
    (case x_InvalidLot => exact LX.XC.ve (by show PySem.W.excInitIn _ _ [.type "ValueError", .type "Exception", .type "BaseException", .type "object"] "ValueError.__new__" = true; kx_is) (by k_is) (by k_is) (by k_is) (by k_is) (by k_is) (by k_is) (by k_is) (by k_is) (by k_is) (by k_is) (by k_is))
    (case x_InvalidWord => exact LX.XC.ve (by show PySem.W.excInitIn _ _ [.type "ValueError", .type "Exception", .type "BaseException", .type "object"] "ValueError.__new__" = true; kx_is) (by k_is) (by k_is) (by k_is) (by k_is) (by k_is) (by k_is) (by k_is) (by k_is) (by k_is) (by k_is) (by k_is))
    (case x_InvalidCommand => exact LX.XC.ve (by show PySem.W.excInitIn _ _ [.type "ValueError", .type "Exception", .type "BaseException", .type "object"] "ValueError.__new__" = true; kx_is) (by k_is) (by k_is) (by k_is) (by k_is) (by k_is) (by k_is) (by k_is) (by k_is) (by k_is) (by k_is) (by k_is))
    (case x_Mismatch => exact LX.XC.ve (by show PySem.W.excInitIn _ _ [.type "ValueError", .type "Exception", .type "BaseException", .type "object"] "ValueError.__new__" = true; kx_is) (by k_is) (by k_is) (by k_is) (by k_is) (by k_is) (by k_is) (by k_is) (by k_is) (by k_is) (by k_is) (by k_is))
    (case x_NoName => exact LX.XC.ke (by show PySem.W.excInitIn _ _ [.type "KeyError", .type "LookupError", .type "Exception", .type "BaseException", .type "object"] "LookupError.__new__" = true; kx_is) (by k_is) (by k_is) (by k_is) (by k_is) (by k_is) (by k_is) (by k_is) (by k_is) (by k_is) (by k_is) (by k_is))
    (case x_NoMark => exact LX.XC.ke (by show PySem.W.excInitIn _ _ [.type "KeyError", .type "LookupError", .type "Exception", .type "BaseException", .type "object"] "LookupError.__new__" = true; kx_is) (by k_is) (by k_is) (by k_is) (by k_is) (by k_is) (by k_is) (by k_is) (by k_is) (by k_is) (by k_is) (by k_is))
    (case xf_InvalidReader => k_is)
    (case xf_InvalidChange => k_is)
    (case xf_InvalidHouse => k_is)
    (case xf_InvalidCondition => k_is)
    (case xf_InvalidSaying => k_is)
    (case xf_InvalidSight => k_is)
    (case xf_InvalidCount => k_is)
    (case xf_InvalidSum => k_is)
    (case xf_InvalidRules => k_is)
    (case xf_InvalidBook => k_is)
    (case xf_InvalidTerm => k_is)
    (case xf_InvalidText => k_is)
    (case xf_Refused => k_is)
    (case xf_Bound => k_is)
    (case xf_NoRow => k_is)
    (case xf_NoName => k_is)
    (case xf_NoMark => k_is)
    (case xe_InvalidRow => k_exc)
    (case xe_InvalidLot => k_exc)
    (case xe_InvalidWord => k_exc)
    (case xe_InvalidCommand => k_exc)
    (case xe_Mismatch => k_exc)
    (case klb => kernel_rfl)
    (case z_KeyError => k_is)
    (case z_ValueError => k_is)
    (case a_xi_InvalidReader => k_is)
    (case i_xi_InvalidReader => k_is)
    (case l_xi_InvalidReader => k_is)
    (case c_xi_InvalidReader => k_is)
    (case k_xi_InvalidReader => k_is)
    (case a_xi_InvalidChange => k_is)
    (case i_xi_InvalidChange => k_is)
    (case l_xi_InvalidChange => k_is)
    (case c_xi_InvalidChange => k_is)
    (case k_xi_InvalidChange => k_is)
    (case a_xi_InvalidHouse => k_is)
    (case i_xi_InvalidHouse => k_is)
    (case l_xi_InvalidHouse => k_is)
    (case c_xi_InvalidHouse => k_is)
    (case k_xi_InvalidHouse => k_is)
    (case a_xi_InvalidCondition => k_is)
    (case i_xi_InvalidCondition => k_is)
    (case l_xi_InvalidCondition => k_is)
    (case c_xi_InvalidCondition => k_is)
    (case k_xi_InvalidCondition => k_is)
    (case a_xi_InvalidSaying => k_is)
    (case i_xi_InvalidSaying => k_is)
    (case l_xi_InvalidSaying => k_is)
    (case c_xi_InvalidSaying => k_is)
    (case k_xi_InvalidSaying => k_is)
    (case a_xi_InvalidSight => k_is)
    (case i_xi_InvalidSight => k_is)
    (case l_xi_InvalidSight => k_is)
    (case c_xi_InvalidSight => k_is)
    (case k_xi_InvalidSight => k_is)
    (case a_xi_InvalidCount => k_is)
    (case i_xi_InvalidCount => k_is)
    (case l_xi_InvalidCount => k_is)
    (case c_xi_InvalidCount => k_is)
    (case k_xi_InvalidCount => k_is)
    (case a_xi_InvalidSum => k_is)
    (case i_xi_InvalidSum => k_is)
    (case l_xi_InvalidSum => k_is)
    (case c_xi_InvalidSum => k_is)
    (case k_xi_InvalidSum => k_is)
    (case a_xi_InvalidRules => k_is)
    (case i_xi_InvalidRules => k_is)
    (case l_xi_InvalidRules => k_is)
    (case c_xi_InvalidRules => k_is)
    (case k_xi_InvalidRules => k_is)
    (case a_xi_InvalidBook => k_is)
    (case i_xi_InvalidBook => k_is)
    (case l_xi_InvalidBook => k_is)
    (case c_xi_InvalidBook => k_is)
    (case k_xi_InvalidBook => k_is)
    (case a_xi_InvalidTerm => k_is)
    (case i_xi_InvalidTerm => k_is)
    (case l_xi_InvalidTerm => k_is)
    (case c_xi_InvalidTerm => k_is)
    (case k_xi_InvalidTerm => k_is)
    (case a_xi_InvalidText => k_is)
    (case i_xi_InvalidText => k_is)
    (case l_xi_InvalidText => k_is)
    (case c_xi_InvalidText => k_is)
    (case k_xi_InvalidText => k_is)
    (case a_xi_Refused => k_is)
    (case i_xi_Refused => k_is)
    (case l_xi_Refused => k_is)
    (case c_xi_Refused => k_is)
    (case k_xi_Refused => k_is)
    (case a_xi_Bound => k_is)
    (case i_xi_Bound => k_is)
    (case l_xi_Bound => k_is)
    (case c_xi_Bound => k_is)
    (case k_xi_Bound => k_is)
    (case a_xi_NoRow => k_is)
    (case i_xi_NoRow => k_is)
    (case l_xi_NoRow => k_is)
    (case c_xi_NoRow => k_is)
    (case k_xi_NoRow => k_is)
    (case a_xi_NoName => k_is)
    (case i_xi_NoName => k_is)
    (case l_xi_NoName => k_is)
    (case c_xi_NoName => k_is)
    (case k_xi_NoName => k_is)
    (case a_xi_NoMark => k_is)
    (case i_xi_NoMark => k_is)
    (case l_xi_NoMark => k_is)
    (case c_xi_NoMark => k_is)
    (case k_xi_NoMark => k_is)
    (case a_seed => k_is)
    (case l_seed => k_is)
    (case c_seed => k_is)
    (case k_seed => k_is)
    (case a_choose => k_is)
    (case l_choose => k_is)
    (case c_choose => k_is)
    (case k_choose => k_is)
    (case a_one_of => k_is)
    (case l_one_of => k_is)
    (case c_one_of => k_is)
    (case k_one_of => k_is)
    (case a_any => k_is)
    (case l_any => k_is)
    (case c_any => k_is)
    (case k_any => k_is)
    (case a_words => k_is)
    (case l_words => k_is)
    (case c_words => k_is)
    (case k_words => k_is)
    (case a_others => k_is)
    (case l_others => k_is)
    (case c_others => k_is)
    (case k_others => k_is)
    (case a_marked => k_is)
    (case l_marked => k_is)
    (case c_marked => k_is)
    (case k_marked => k_is)
    (case a_kinds => k_is)
    (case l_kinds => k_is)
    (case c_kinds => k_is)
    (case k_kinds => k_is)
    (case a_law => k_is)
    (case l_law => k_is)
    (case c_law => k_is)
    (case k_law => k_is)
    (case z_int => k_is)
    (case z_len => k_is)
    (case z_abs => k_is)
    (case z_tuple => k_is)
    (case z_list => k_is)
    (case z_isinstance => k_is)
    (case z_range => k_is)
    (case z_max => k_is)
    (case z_min => k_is)
    (case z_repr => k_is)
