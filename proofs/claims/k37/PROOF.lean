
import PyProof.Rows.All
import Wide.All
import OpenK.AllK
import Wide.FinOn
import Lean
import PyProof.EqAt
import PyProof.EqKinds
import PyProof.TupleCall
import PyProof.ZipIter
import KE.KDictList
import PyProof.Rows.TupDisplay
import PyProof.Rows.SortRev
import PyProof.Rows.CallKwBuiltin
import PySem.SetTable
import PyProof.SetScanFacts
import PyProof.SetKind
import PyProof.FactsAll.tuple_iterator
import PyProof.Rows.StrKeys3
import PyProof.Rows.StrWeight2
import PyProof.SliceStr2
import PyProof.StrLaws
import PyProof.Rows.Range3
import PySem.Challenge.RW_threetrees_k37_lowest_and_highest
set_option genSizeOfSpec false
set_option linter.all false
set_option Elab.async false
set_option maxRecDepth 100000
set_option linter.defProp false
theorem LL {p:Prop}(h:p:=by lia):p:=h
theorem SS {p:Prop}(h:p:=by simp):p:=h
theorem DD {p:Prop}(h:p:=by decide):p:=h
theorem OO {p:Prop}(h:p:=by omega):p:=h
theorem QQ {p:Prop}(h:p:=by simp;lia):p:=h
theorem AO {p:Prop}(h:p:=by assumption):p:=h
theorem XX {p:Prop}(h:p:=by simp[*]):p:=h
theorem YY {p:Prop}(h:p:=by simp_all):p:=h
theorem RR {p:Prop}(h:p:=by rfl):p:=h
abbrev AA:=List (List Nat)
abbrev AC:=List (List Int)
abbrev AD:=List Nat
abbrev AF:=List Int
abbrev AG:=List PySem.PyData
abbrev AH:=List PySem.Value
abbrev AJ:=List PySem.Str
abbrev AK:=Array PySem.Value
abbrev AL:=Option PySem.Addr
abbrev AM:=List PySem.Addr
abbrev AN:=List PySem.Expr
def Aa:=@PySem.wpAny_bind
def Ab:=@if_neg
def Ac:=@if_pos
def Ae:=@PySem.wpAny_pure
def Af:=@PySem.F.type_list_append
def Ag:=@PySem.F.slot_list_append
def Ah:=@List.mem_filter
def Ai:=@decide_eq_true_eq
def Aj:=@decide_eq_false
def Ak:=@List.mem_append_left
def Al:=@PySem.PassesOwn.never
def Am:=@decide_eq_true
def Ao:=@Bool.false_ne_true
def Ap:=@of_decide_eq_true
def Aq:=@Nat.le_trans
def As:=@Bool.and_eq_true
def Au:=@List.length_cons
def Av:=@PySem.boot_len
def Aw:=@List.mem_of_getElem?
def Ax:=@List.idxOf_lt_length_iff
def Ay:=@Option.map_eq_some_iff
def Az:=@List.mem_cons_self
def Ba:=@List.filterMap_map
def Bb:=@Array.length_toList
def Bc:=@decide_eq_decide
def Bd:=@PySem.W.mg_none_of
def Be:=@List.filterMap_cons
def Bf:=@List.append_nil
def Bg:=@List.getElem?_set_self
def Bh:=@PySem.call_isinstance
def Bi:=@Array.getElem?_eq_getElem
def Bj:=@List.map_congr_left
def Bk:=@List.mem_of_mem_take
def Bl:=@of_decide_eq_false
def Bm:=@List.length_drop
def Bn:=@List.filter_append
def Bo:=@PyProof.Rows.callWith_type1
def Bp:=@PyProof.Rows.slot_tuple_getitem
def Bq:=@List.range_succ
def Br:=@Nat.zero_le
def Bs:=@List.getElem?_append_left
def Bu:=@List.drop_eq_getElem_cons
def Bv:=@List.cons.injEq
def Bw:=@List.find?_cons
def Bx:=@List.headD_cons
def By:=@Bool.eq_iff_iff
def Bz:=@List.nodup_range
def Ca:=@List.perm_append_comm
def Cb:=@PySem.wpAny_newObj_type
def Cc:=@List.take_succ_eq_append_getElem
def Cd:=@List.length_range
def Ce:=@decide_eq_false_iff_not
def Cf:=@List.getElem?_append_right
def Cg:=@PySem.wpAny_holding
def Ci:=@Int.emod_nonneg
def Cj:=@PySem.wpAny_call_entry
def Ck:=@Prod.mk.injEq
def Cm:=@Nat.le_of_lt
def Cn:=@PySem.wpAny_callSpecial?_slot
def Co:=@List.take_length
def Cp:=@Int.emod_lt_of_pos
def Cq:=@List.length_erase_of_mem
def Cr:=@List.Pairwise.imp_of_mem
def Cs:=@List.flatten_cons
def Ct:=@List.getElem?_replicate
def Cu:=@List.replicate_succ
def Cv:=@List.length_pos_iff
def Cw:=@List.map_nil
def Cz:=@List.length_pos_of_mem
def Dc:=@List.take_succ
def Dd:=@PySem.Heap.get?_update_self
def De:=@Nat.lt_or_ge
def Df:=@List.mem_of_mem_drop
def Dg:=@List.length_replicate
def Dh:=@Nat.lt_succ_of_lt
def Di:=@List.getElem_mem
def Dj:=@PySem.W.mg_of
def Dk:=@Nat.lt_of_le_of_lt
def Dm:=@PySem.Heap.size_push
def Dn:=@Array.getElem?_eq_none
def Dq:=@List.take_of_length_le
def Dr:=@PySem.Heap.get?_update_other
def Ds:=@List.mem_reverse
def Dt:=@PySem.sizeLine_eq
def Du:=@List.take_append_of_le_length
def Dv:=@List.length_set
def Dx:=@Bool.or_eq_true
def Dy:=@PySem.Heap.SameBut.update
def Dz:=@Bool.false_eq_true
def Eb:=@Array.getElem?_toList
def Ec:=@List.pairwise_append
abbrev Ed:=PySem.Value->PySem.Shared->Prop
abbrev Ee:=List (PySem.Addr×PySem.Obj)
open PySem.W (Frag)
def Aa0:=@List.mem_append
def Aa1:=@List.mem_cons
def Aa2:=@List.getElem?_eq_getElem
def Aa3:=@List.length_map
def Aa4:=@List.nodup_append
def Aa5:=@List.nodup_cons
def Aa6:=@PySem.Heap.get?_push_of_some
def Aa7:=@Nat.le_refl
def Aa8:=@List.mem_map
def Aa9:=@List.getElem?_map
def Ab0:=@List.getElem?_eq_some_iff
def Ab1:=@PySem.F.plainAttrs_list
def Ab2:=@List.size_toArray
def Ab3:=@PySem.Heap.lt_size
def Ab4:=@Option.some.inj
def Ab5:=@List.mem_range
def Ab6:=@List.cons_append
def Ab7:=@List.length_append
def Ab8:=@Nat.lt_of_lt_of_le
def Ab9:=@Nat.ne_of_lt
def Ac0:=@List.getD_eq_getElem?_getD
def Ac1:=@List.mem_append_right
def Ac2:=@List.not_mem_nil
def Ac3:=@PySem.Heap.get?_push_size
def Ac4:=@List.idxOf_lt_length_of_mem
def Ac5:=@List.eq_nil_or_concat
def Ac6:=@List.nodup_iff_pairwise_ne
def Ac7:=@List.map_cons
def Ac8:=@Int.toNat_natCast
def Ac9:=@List.all_eq_true
def Ad0:=@List.getElem?_set_ne
def Ad1:=@List.length_take
def Ad2:=@List.map_append
def Ad3:=@List.take_append_drop
def Ad4:=@List.mem_cons_of_mem
def Ad5:=@List.append_of_mem
def Ad6:=@List.getElem?_eq_none
def Ad7:=@List.append_assoc
def Ad8:=@List.mem_singleton
def Ad9:=@Nat.lt_irrefl
def Ae0:=@List.pairwise_map
def Ae1:=@List.pairwise_cons
def Ae2:=@List.length_reverse
def Ae3:=@List.map_map
namespace L2
open PySem PySem.Spec PyProof.Rows
abbrev Key:=Sum Int Str
def dO2:Key->Value->Bool
 | .inl k,v=>Value.isInt k v
 | .inr x,v=>Value.isStrOf x v
def eG0 (w:World):Key->Int
 | .inl k=>hashInt k
 | .inr x=>hashStr w x
theorem M0:∀{k:Key} {v:Value},dO2 k v=true->(∃i t,k=Sum.inl i/\v=Value.int i t)\/(∃x t,k=Sum.inr x/\v=Value.str x t)
 | .inl i,v,h=>by
  obtain⟨t,e⟩:=Value.isInt_shape h;exact .inl ⟨i,t,rfl,e⟩
 | .inr x,v,h=>by
  obtain⟨t,e⟩:=Value.isStrOf_shape h;exact .inr ⟨x,t,rfl,e⟩
theorem dW3 (a b:Int):decide ((Sum.inl a:Key)=Sum.inl b)=(a==b):=by
 by_cases e:a=b
 .subst e;simp
 .have h:¬(Sum.inl a:Key)=Sum.inl b:=λq=>e (Sum.inl.inj q)
  rw[Aj h];exact(beq_eq_false_iff_ne.mpr e).symm
theorem dW9 (a b:Str):decide ((Sum.inr a:Key)=Sum.inr b)=decide (a=b):=by
 by_cases e:a=b
 .simp
 .have h:¬(Sum.inr a:Key)=Sum.inr b:=λq=>e (Sum.inr.inj q)
  rw[Aj h,Aj e]
theorem dR3 (a:Int)(b:Str):decide ((Sum.inl a:Key)=Sum.inr b)=false:=Aj (λq=>nomatch q)
theorem dU1 (a:Str)(b:Int):decide ((Sum.inr a:Key)=Sum.inl b)=false:=Aj (λq=>nomatch q)
def cF9 (prog:Program)(w:World):PySem.KeyKind prog w Key where
 is:=dO2
 hash:=eG0 w
 inj:=λv a b ha hb=>by
  rcases M0 ha with⟨i,t,rfl,rfl⟩ | ⟨x,t,rfl,rfl⟩
  .rcases M0 hb with⟨j,u,rfl,e⟩ | ⟨y,u,rfl,e⟩
   .injection e with e1 _;rw[e1]
   .exact nomatch e
  .rcases M0 hb with⟨j,u,rfl,e⟩ | ⟨y,u,rfl,e⟩
   .exact nomatch e
   .injection e with e1 _;rw[e1]
 byValue:=λk v h=>by
  rcases M0 h with⟨i,t,rfl,rfl⟩ | ⟨x,t,rfl,rfl⟩ <;> rfl
 pyHash:=λhv h=>by
  rcases M0 hv with⟨i,t,rfl,rfl⟩ | ⟨x,t,rfl,rfl⟩
  .exact wpAny_pyHash_int h
  .exact wpAny_pyHash_str h
 eqBool:=λhu hv h=>by
  rcases M0 hu with⟨i,t,rfl,rfl⟩ | ⟨x,t,rfl,rfl⟩
  .rcases M0 hv with⟨j,u,rfl,rfl⟩ | ⟨y,u,rfl,rfl⟩
   .rw[dW3]at h;exact wpAny_eqBool_int h
   .rw[dR3]at h;exact SeqAt.EqAt.int_str i t y u _ _ _ _ h
  .rcases M0 hv with⟨j,u,rfl,rfl⟩ | ⟨y,u,rfl,rfl⟩
   .rw[dU1]at h;exact SeqAt.EqAt.str_int x t j u _ _ _ _ h
   .rw[dW9]at h;exact wpAny_eqBool_str h
 «strs» := λk x t v h=>by
  rcases M0 h with⟨i,u,rfl,e⟩ | ⟨y,u,rfl,e⟩
  .exact nomatch e
  .injection e with e1 _
   subst e1;cases v <;> rfl
inductive V where
 | non | bl (b:Bool) | int (i:Int) | str (x:Str) | byt (b:Array UInt8) | flt (b:UInt64) | ref (a:Addr) | ty (n:String)
 deriving DecidableEq
def RelV:V->Value->Prop
 | .non,u=>u=Value.none
 | .bl b,u=>u=Value.bool b
 | .int i,u=>∃t,u=Value.int i t
 | .str x,u=>∃t,u=Value.str x t
 | .byt b,u=>∃t,u=Value.bytes b t
 | .flt b,u=>∃t,u=Value.float b t
 | .ref a,u=>u=Value.ref a
 | .ty n,u=>u=Value.type n
abbrev Vals:List V->AH->Prop:=Paired RelV
theorem Vals.length (r:Vals xs us):xs.length=us.length:=Paired.length r
theorem Vals.get:∀{xs:List V} {us:AH} {i:Nat} {x:V},Vals xs us->xs[i]? = some x->∃u,us[i]? = some u/\RelV x u
 | _,_,_,_,.nil,e=>by simp at e
 | _,_,0,_,.cons r _,e=>by simp at e;subst e;exact⟨_,rfl,r⟩
 | _,_,i+1,x,.cons _ t,e=>by
  obtain⟨u,h1,h2⟩:=Vals.get t (by simpa using e)
  exact⟨u,by simpa using h1,h2⟩
theorem Vals.set (r:RelV x u):∀{xs:List V} {us:AH} (i:Nat),Vals xs us->Vals (xs.set i x) (us.set i u)
 | _,_,_,.nil=>.nil
 | _,_,0,.cons _ t=>.cons r t
 | _,_,i+1,.cons q t=>.cons q (Vals.set r i t)
theorem Vals.append:∀{xs ys:List V} {us ws:AH},Vals xs us->Vals ys ws->Vals (xs++ys) (us++ws)
 | _,_,_,_,.nil,s=>s
 | _,_,_,_,.cons r t,s=>.cons r (Vals.append t s)
theorem Vals.take:∀{xs:List V} {us:AH} (n:Nat),Vals xs us->Vals (xs.take n) (us.take n)
 | _,_,0,_=>.nil
 | _,_,_+1,.nil=>.nil
 | _,_,n+1,.cons r t=>.cons r (Vals.take n t)
theorem Vals.drop:∀{xs:List V} {us:AH} (n:Nat),Vals xs us->Vals (xs.drop n) (us.drop n)
 | _,_,0,r=>r
 | _,_,_+1,.nil=>.nil
 | _,_,n+1,.cons _ t=>Vals.drop n t
def cN3:Option V->Option Value->Prop
 | some v,some u=>RelV v u
 | none,none=>True
 | _,_=>False
def KV {κ:Type}:List (κ×V)->List (κ×Value)->Prop:=Paired λ(p:κ×V) (q:κ×Value)=>p.1=q.1/\RelV p.2 q.2
def kV:Key->V
 | .inl i=>.int i
 | .inr x=>.str x
inductive HO where
 /-- a list -/
 | lst (xs:List V)
 /-- a tuple (never changes) -/
 | tup (xs:List V)
 /-- a dict whose keys are ints and texts;one whose keys are tuples of ints and texts (the empty one is both) -/
 | dK (kvs:List (Key×V)) | dT (kvs:List (List Key×V))
 /-- a set of ints: its members,its size -/
 | set (S:Int->Bool) (n:Nat)
 /-- an instance of the class at C,its dict at dx,its attributes -/
 | ins (C dx:Addr) (fs:List (Str×V))
 /-- the dict of the instance at x -/
 | own (x:Addr)
 /-- the dict of an exception -/
 | xd (fs:List (Str×V))
 /-- a bound method,f of x -/
 | met (f x:Addr)
 /-- a range object lo,lo+1,.. below hi -/
 | rng (lo hi:Int)
 /-- a thing that is known to the object (the script;a dict while a loop walks it): read,never written while it is so -/
 | frz (o:Obj) (u:HO)
 /-- a code object's table -/
 | tbl (ps:AK)
 /-- any other thing,by what is true of its one object (a def of one's own: SetO a S n:=HO.ext λh=>..) -/
 | ext (φ:Heap->Prop)
abbrev Hp:=Addr->Option HO
def upd (H:Hp)(a:Addr)(o:HO):Hp:=λb=>if b=a then some o else H b
theorem C7:upd H a o a=some o:=by unfold upd;rw[Ac rfl]
theorem C1 (h:b≠a):upd H a o b=H b:=by unfold upd;rw[Ab h]
theorem F2 {H:Hp}(h:H a=some o)(j:H b=none):a≠b:=by
 intro e;subst e;rw[h]at j;cases j
def Tup0 (h:Heap)(a:Addr)(items:AK):Prop:=∃o,h.get? a=some o/\o.cls=.type "tuple" /\ (∃n,o.data=.seq items n)/\o.dict=none
theorem Tup0.tup {h:Heap}{a:Addr}{items:AK}(p:Tup0 h a items):IsTup h a items:=p.imp λ_ q=>⟨q.1,q.2.1,q.2.2.1⟩
theorem Tup0.nw (h:Heap)(e:AK)(n:Nat):Tup0 (h.push {cls:=.type "tuple",data:=.seq e n}) h.objs.size e:=⟨_,Ac3 _ rfl,rfl,⟨n,rfl⟩,rfl⟩
section
variable (P:Program)(w:World)
def ObjOk (H:Hp)(h:Heap)(a:Addr):HO->Prop
 | .lst xs=>xs.length<=sizeLine/\∃(its:AH) (n:Nat),Vals xs its/\h.get? a=some {cls:=.type "list",data:=.seq its.toArray n}
 | .tup xs=>xs.length<=sizeLine/\∃its:AH,Vals xs its/\Tup0 h a its.toArray
 | .dK kvs=>kvs.length<=sizeLine/\(a==sysModules)=false/\∃vs,KV kvs vs/\h.DictOf (cF9 P w) a vs
 | .dT kvs=>kvs.length<=sizeLine/\(a==sysModules)=false/\∃xs:List (List Key×Addr×Value),
   Paired (λ(p:List Key×V) (q:List Key×Addr×Value)=>p.1=q.1/\H q.2.1=some (.tup (p.1.map kV))/\RelV p.2 q.2.2) kvs xs /\
   ∃o es ep,h.get? a=some o/\o.ExactDict/\o.data=.dict es ep/\es.toList=xs.map (entryOfKey (tupleKind (cF9 P w)))/\(xs.map (·.1)).Nodup
 | .set S n=>h.SetOf (intKind P w) a S n
 | .ins C dx fs=>H dx=some (.own a)/\fs.length<=1000/\dx≠a/\h.get? a=some (PySem.W.instObj C dx) /\
   ∃mA,h.Ns1 dx mA/\(∀f,cN3 (fs.lookup f) (mA f))/\PySem.Within mA (fs.map (·.1))
 | .own _=>∃o,h.get? a=some o
 | .xd fs=>∃mA,h.Ns1 a mA/\∀f,cN3 (fs.lookup f) (mA f)
 | .rng lo hi=>∃t u v,h.get? a=some {cls:=.type "range",data:=.fields #[.int lo t,.int hi u,.int 1 v]}
 | .frz o u=>h.get? a=some o/\ObjOk H h a u
 | .tbl ps=>h.get? a=some {cls:=.none,data:=.fields ps}
 | .met f x=>h.get? a=some (PySem.W.methodObj (.ref f) (.ref x))
 | .ext φ => φ h/\(∃o,h.get? a=some o)/\∀h1 h2:Heap,φ h1->(∀o,h1.get? a=some o->h2.get? a=some o)->φ h2
def HOk (H:Hp)(h:Heap):Prop:=∀a o,H a=some o->ObjOk P w H h a o
end
section
theorem ObjOk.lt (x:ObjOk P w H h a o):a<h.objs.size:=by
 cases o with
 | lst xs=>obtain⟨_,_,_,_,e⟩:=x;exact Ab3 e
 | tup xs=>obtain⟨_,_,_,p⟩:=x;exact p.tup.lt
 | dK kvs=>obtain⟨_,_,_,_,o,_,_,e,_⟩:=x;exact Ab3 e
 | dT kvs=>obtain⟨_,_,_,_,o,_,_,e,_⟩:=x;exact Ab3 e
 | set S n=>obtain⟨o,_,_,_,e,_⟩:=x;exact Ab3 e
 | ins C dx fs=>obtain⟨_,_,_,e,_⟩:=x;exact Ab3 e
 | own y=>obtain⟨_,e⟩:=x;exact Ab3 e
 | xd fs=>obtain⟨_,⟨_,_,_,e,_⟩,_⟩:=x;exact Ab3 e
 | rng lo hi=>obtain⟨_,_,_,e⟩:=x;exact Ab3 e
 | frz ob u=>obtain⟨e,_⟩:=x;exact Ab3 e
 | tbl ps=>exact Ab3 (show h.get? a=some _ from x)
 | met f y=>exact Ab3 (show h.get? a=some _ from x)
 | ext φ=>obtain⟨_,⟨_,e⟩,_⟩:=x;exact Ab3 e
theorem Paired.mapP {α β:Type}{F G:α->β->Prop}:∀{l₁:List α} {l₂:List β},Paired F l₁ l₂->(∀a b,F a b->G a b)->Paired G l₁ l₂
 | _,_,.nil,_=>.nil
 | _,_,.cons r t,f=>.cons (f _ _ r) (Paired.mapP t f)
theorem ObjOk.stay (x:ObjOk P w H h a o)(k:∀b u,(b=a\/H b=some (.own a))->h.get? b=some u->h'.get? b=some u)
  (ho:∀b,H b=some (.own a)->H' b=some (.own a)) (J:∀b xs,H b=some (.tup xs)->H' b=some (.tup xs)):ObjOk P w H' h' a o:=by
 induction o with
 | lst xs=>obtain⟨z,its,n,r,e⟩:=x;exact⟨z,its,n,r,k _ _ (.inl rfl) e⟩
 | tup xs=>obtain⟨z,its,r,ob,e,c⟩:=x;exact⟨z,its,r,ob,k _ _ (.inl rfl) e,c⟩
 | dK kvs=>obtain⟨z,y,vs,r,ob,s,j,e,c⟩:=x;exact⟨z,y,vs,r,ob,s,j,k _ _ (.inl rfl) e,c⟩
 | dT kvs=>
  obtain⟨z,y,xs,r,ob,s,j,e,c⟩:=x;exact⟨z,y,xs,Paired.mapP r λp q z=>⟨z.1,J _ _ z.2.1,z.2.2⟩,ob,s,j,k _ _ (.inl rfl) e,c⟩
 | set S n=>obtain⟨ob,s,j,t,e,c⟩:=x;exact⟨ob,s,j,t,k _ _ (.inl rfl) e,c⟩
 | ins C dx fs=>
  obtain⟨d,z,ne,e,m,⟨Y,s,j,U,c⟩,r⟩:=x;exact⟨ho _ d,z,ne,k _ _ (.inl rfl) e,m,⟨Y,s,j,k _ _ (.inr d) U,c⟩,r⟩
 | own y=>obtain⟨ob,e⟩:=x;exact⟨ob,k _ _ (.inl rfl) e⟩
 | xd fs=>obtain⟨m,⟨Y,s,j,e,c⟩,r⟩:=x;exact⟨m,⟨Y,s,j,k _ _ (.inl rfl) e,c⟩,r⟩
 | rng lo hi=>obtain⟨t,u,v,e⟩:=x;exact⟨t,u,v,k _ _ (.inl rfl) e⟩
 | frz ob u M=>obtain⟨e,q⟩:=x;exact⟨k _ _ (.inl rfl) e,M q⟩
 | tbl ps=>
  have e:=x
  exact k a _ (.inl rfl) e
 | met f y=>
  have e:=x
  exact k a _ (.inl rfl) e
 | ext φ=>obtain⟨p,⟨o,e⟩,X⟩:=x;exact⟨X _ _ p λo q=>k _ _ (.inl rfl) q,⟨o,k _ _ (.inl rfl) e⟩,X⟩
theorem HOk.lt (x:HOk P w H h)(e:H a=some o):a<h.objs.size:=(x a o e).lt
theorem HOk.fresh (x:HOk P w H h)(e:h.objs.size<=a):H a=none:=by
 cases q:H a with
 | none=>rfl
 | some u=>exact absurd (Ab8 (x.lt q) e) (Ad9 _)
theorem HOk.kept (x:HOk P w H h)(k:∀b u,h.get? b=some u->h'.get? b=some u):HOk P w H h':=λa o e=>
 (x a o e).stay (λb u _ q=>k b u q) (λ_ q=>q) λ_ _ q=>q
theorem HOk.laid (x:HOk P w H h)(k:∀b u,h.get? b=some u->h'.get? b=some u)(hp:h.objs.size<=a)(j:ObjOk P w (upd H a o) h' a o):HOk P w (upd H a o) h':=λb u e=>by
 have m:=x.fresh hp
 by_cases s:b=a
 .subst s;rw[C7]at e;cases e;exact j
 .rw[C1 s]at e;exact(x b u e).stay (λc v _ q=>k c v q) (λc q=>by rw[C1 (F2 q m)];exact q) λc xs q=>by rw[C1 (F2 q m)];exact q
end
def Rd (H:Hp)(a:Addr)(u:HO):Prop:=H a=some u\/∃o,H a=some (.frz o u)
theorem Rd.ok (r:Rd H a u)(x:HOk P w H h):ObjOk P w H h a u:=by
 rcases r with r | ⟨o,r⟩
 .exact x a u r
 .obtain⟨_,q⟩:=x a _ r;exact q
def Mut:Option HO->Prop
 | some (.lst _)=>True
 | some (.dK _)=>True
 | some (.dT _)=>True
 | some (.set _ _)=>True
 | some (.ins _ _ _)=>True
 | some (.ext _)=>True
 | _=>False
section
theorem HOk.write (ok:HOk P w H h)(mu:Mut (H x))(J:e=x\/H e=some (.own x))(k:∀b u,b≠e->h.get? b=some u->h'.get? b=some u)(X:∃u,h'.get? e=some u)
  (U:ObjOk P w (upd H x o') h' x o'):HOk P w (upd H x o') h':=λb u q=>by
 have s:∀c y,H c=some (.own y)->c≠x:=λc y r z=>by subst z;rw[r]at mu;exact mu
 have m:∀c xs,H c=some (.tup xs)->c≠x:=λc xs r z=>by subst z;rw[r]at mu;exact mu
 by_cases Y:b=x
 .subst Y;rw[C7]at q;cases q;exact U
 .rw[C1 Y]at q;by_cases j:b=e
  .have M:H b=some (.own x):=by
    rcases J with z | z
    .exact absurd (j.trans z) Y
    .rw[j];exact z
   rw[q]at M;cases M;obtain⟨v,R⟩:=X;exact⟨v,by rw[j];exact R⟩
  .refine(ok b u q).stay (λc v hc r=>k c v ?_ r) (λc r=>by rw[C1 (s c b r)];exact r) λc xs r=>by rw[C1 (m c xs r)];exact r
   rcases hc with rfl | hc
   .exact j
   .rintro rfl;rcases J with z | z
    .exact s c b hc z
    .rw[hc]at z;cases z;exact Y rfl
end
structure Un (fs ex:AM)(H H':Hp)(h h':Heap):Prop where
 keep:∀b o,h.get? b=some o->H b=none->b∉fs->b∉ex->h'.get? b=some o
 slot:∀b o,h.get? b=some o->H b=none->b∈fs->b∉ex->∃sl,h'.get? b=some {o with slots:=sl}
 free:∀b o,h.get? b=some o->H b=none->b∉ex->H' b=none
 there:∀b o,h.get? b=some o->b∉ex->∃o',h'.get? b=some o'
 tups:∀b xs,H b=some (.tup xs)->H' b=some (.tup xs)
 frzs:∀b o u,H b=some (.frz o u)->H' b=some (.frz o u)
 tbls:∀b ps,H b=some (.tbl ps)->∃more,H' b=some (.tbl (ps++more))
section
theorem Un.any (u:Un fs ex H H1 h h1)(q:h.get? b=some ob)(n:H b=none)(j:b∉ex):∃sl,h1.get? b=some {ob with slots:=sl}:=by
 by_cases e:b∈fs
 .exact u.slot b ob q n e j
 .exact⟨ob.slots,u.keep b ob q n e j⟩
theorem Un.kept (k:∀b u,h.get? b=some u->h'.get? b=some u):Un fs ex H H h h':=
 ⟨λb ob q _ _ _=>k b ob q,λb ob q _ _ _=>⟨ob.slots,k b ob q⟩,λ_ _ _ n _=>n,λb ob q _=>⟨ob,k b ob q⟩,λ_ _ q=>q,λ_ _ _ q=>q,λ_ ps q=>⟨#[],by rw[q];simp⟩⟩
theorem Un.refl:Un fs ex H H h h:=Un.kept λ_ _ q=>q
theorem Un.laid (k:∀b u,h.get? b=some u->h'.get? b=some u)(hp:h.objs.size<=a)(e:H a=none):Un fs ex H (upd H a o) h h' where
 keep:=λb u q _ _ _=>k b u q
 slot:=λb u q _ _ _=>⟨u.slots,k b u q⟩
 free:=λb u q n _=>by rw[C1 (Ab9 (Ab8 (Ab3 q) hp))];exact n
 there:=λb u q _=>⟨u,k b u q⟩
 tups:=λb xs q=>by rw[C1 (F2 q e)];exact q
 frzs:=λb u xs q=>by rw[C1 (F2 q e)];exact q
 tbls:=λb ps q=>⟨#[],by rw[C1 (F2 q e),q];simp⟩
theorem Un.write (mu:Mut (H x))(X:e=x\/H e=some (.own x))(k:∀b u,b≠e->h.get? b=some u->h'.get? b=some u)(c:∃u,h'.get? e=some u):Un fs ex H (upd H x o) h h':=by
 have Y:∀b,H b=none->b≠x:=λb n z=>by subst z;rw[n]at mu;exact mu
 have m:∀b,H b=none->b≠e:=λb n z=>by
  subst z;rcases X with r | r
  .exact Y b n r
  .rw[n]at r;cases r
 have s:∀b u,H b=some u->¬Mut (some u)->b≠x:=λb u q nm z=>by subst z;rw[q]at mu;exact nm mu
 refine⟨λb u q n _ _=>k b u (m b n) q,λb u q n _ _=>⟨u.slots,k b u (m b n) q⟩,λb u q n _=>by rw[C1 (Y b n)];exact n,λb u q _=>?_,
  λb xs q=>by rw[C1 (s b _ q λz=>z)];exact q,λb u xs q=>by rw[C1 (s b _ q λz=>z)];exact q,λb ps q=>⟨#[],by rw[C1 (s b _ q λz=>z),q];simp⟩⟩
 by_cases j:b=e
 .subst j;exact c
 .exact⟨u,k b u j q⟩
end
def trk (h:Heap)(H:Hp):AM:=(List.range h.objs.size).filter λa=>(H a).isSome
def bY4 (h:Heap)(H:Hp):Heap:=PySem.W.hideAll h (trk h H)
theorem cO0 (h:Heap)(H:Hp):(bY4 h H).objs.size=h.objs.size:=PySem.W.hideAll_size _ _
theorem dA7 (e:h.get? b=some o)(n:H b=none):(bY4 h H).get? b=some o:=
 PySem.W.hideAll_get _ e λj=>by
  have q:=(Ah.mp j).2
  rw[n]at q;simp at q
theorem dJ8 (e:(bY4 h H).get? b=some o):h.get? b=some o/\H b=none:=by
 have e':=PySem.W.of_hideAll (trk h H) e
 refine⟨e',?_⟩;cases q:H b with
 | none=>rfl
 | some x=>
  have j:b∈trk h H:=Ah.mpr ⟨Ab5.mpr (Ab3 e'),by simp[q]⟩
  have z:(bY4 h H).get? b=none:=PySem.W.hideAll_none (trk h H) j
  rw[z]at e;cases e
def bK9 (g h:Heap)(L:Addr):List (Addr×Obj):=(List.range h.objs.size).filterMap λa=>if a=L\/(g.get? a).isSome=true then none else(h.get? a).map λo=>(a,o)
theorem S4 (h1:a≠L)(j:g.get? a=none)(e:h.get? a=some o):(a,o)∈bK9 g h L:=
 List.mem_filterMap.mpr ⟨a,Ab5.mpr (Ab3 e),by simp[h1,j,e]⟩
theorem bE0 (hp:p∈bK9 g h L):p.1≠L/\g.get? p.1=none/\h.get? p.1=some p.2:=by
 obtain⟨b,_,e⟩:=List.mem_filterMap.mp hp;split at e
 .cases e
 .rename_i hn;cases q:h.get? b with
  | none=>rw[q]at e;simp at e
  | some u=>
   rw[q]at e;simp  [Option.map_some,Option.some.injEq]at e;subst e;refine⟨λz=>hn (.inl z),?_,q⟩
   cases r:g.get? b with
   | none=>rfl
   | some v=>exact(hn (.inr (by simp[r]))).elim
theorem bX9:News g L h (bK9 g h L):=λp hp=>let ⟨a,b,c⟩:=bE0 hp;⟨c,a,b⟩
structure Mod (K:Frag)(mg:Str->Option Value)(base:Heap):Prop where
 kin:K.In base
 glob:base.Ns mainGlobals mg
 blt:∃mb,base.Ns builtinsNs mb/\∀x:Str,x≠"__name__" -> mb x=bootBuiltins x
 nolimit:base.NoLimit
structure Cx where
 prog:Program
 w:World
 K:Frag
 mg:Str->Option Value
 base:Heap
 A:Around
 N:AJ
 s₀:Shared
 H₀:Hp
 env:Env
 outer:List Env
 stack:List Env
 ex:AM
 fn:Str->Bool
 calm:Bool
 pn:List (Addr×Obj)
 xe:Value->Shared->Prop
def frs (l:List Env):AM:=l.filterMap (·.frame)
abbrev Cx.fs (X:Cx):AM:=frs X.outer
def Vis (sc:Scope)(x:Str):Prop:=sc.names.lookup x=some .local\/sc.names.lookup x=some .cell\/sc.names.lookup x=some .free
def Loc (sc:Scope)(x:Str):Prop:=sc.names.lookup x=some .local\/sc.names.lookup x=some .cell
def eH3 (env:Env)(h:Heap)(m:Str->Option Value)(x:Str)(u:Value):Prop:=
 (env.kindOf x=some .local/\m x=some u)\/((env.kindOf x=some .cell\/env.kindOf x=some .free)/\∃c,env.cells.lookup x=some c/\h.IsCell c (some u))
structure Cx.Ok (X:Cx):Prop where
 mod:Mod X.K X.mg X.base
 kind:X.env.scope.kind=.function
 glob:X.env.globals=mainGlobals
 blt:X.env.builtins=builtinsNs
 above:X.s₀.heap.objs.size<=X.env.locals
 inj:∀x y c,X.env.cells.lookup x=some c->X.env.cells.lookup y=some c->x=y
 has:∀x,(X.env.kindOf x=some .cell\/X.env.kindOf x=some .free)->∃c,X.env.cells.lookup x=some c
 cab:∀x c,X.fn x=true->X.env.cells.lookup x=some c->X.s₀.heap.objs.size<=c
 hd:X.calm=true->X.A.handled=none
 frames:X.A.frames=some X.stack
 stk:X.stack=X.outer\/(X.stack=X.env::X.outer/\X.env.frame=some X.env.locals)
 exf:∀b∈X.ex,b≠X.env.locals/\∀x c,X.env.cells.lookup x=some c->c≠b
 bs:∀b o,X.base.get? b=some o->X.s₀.heap.get? b=some o/\X.H₀ b=none
 bsz:X.base.objs.size<=X.s₀.heap.objs.size
 noex:∀b o,X.base.get? b=some o->b∉X.ex
 exfs:∀b∈X.ex,b∉X.fs
 funs:X.s₀.heap.FunFrames X.base X.outer
 frf:∀b∈X.fs,X.H₀ b=none
structure Inv (X:Cx)(aA:Ee)(σ:List (Option V))(H:Hp)(s:Shared):Prop where
 ok:X.Ok
 os:s.os=X.s₀.os
 bare:AllBare s.gens
 base:Un X.fs X.ex X.H₀ H X.s₀.heap s.heap
 loc:∃m,s.heap.Ns X.env.locals m/\∀(i:Nat) (x:Str) (v:V),X.N[i]? = some x->σ[i]? = some (some v)->Vis X.env.scope x->∃u,RelV v u/\eH3 X.env s.heap m x u
 cell:∀x c,X.env.cells.lookup x=some c->∃v,s.heap.IsCell c v
 free:H X.env.locals=none
 freeC:∀x c,X.env.cells.lookup x=some c->H c=none
 pin:∀p∈X.pn++aA,s.heap.get? p.1=some p.2/\H p.1=none/\p.1≠X.env.locals/\p.1∉X.fs/\∀v,p.2.data≠.cell v
 hok:HOk X.prog X.w H s.heap
 len:σ.length=X.N.length
section
variable {X:Cx}{aA:Ee}{σ:List (Option V)}{H H':Hp}{s:Shared}{h':Heap}
theorem Cx.Ok.nofr (ok:X.Ok)(e:X.base.get? b=some o):b∉X.fs:=λj=>by
 have:=(ok.funs.mem j).1
 rw[e]at this;cases this
theorem Inv.bs (I:Inv X aA σ H s):∀b o,X.base.get? b=some o->s.heap.get? b=some o/\H b=none:=λb o e=>
 ⟨I.base.keep b o (I.ok.bs b o e).1 (I.ok.bs b o e).2 (I.ok.nofr e) (I.ok.noex b o e),I.base.free b o (I.ok.bs b o e).1 (I.ok.bs b o e).2 (I.ok.noex b o e)⟩
theorem Inv.bk (I:Inv X aA σ H s):∀b o,X.base.get? b=some o->s.heap.get? b=some o:=λb o e=>(I.bs b o e).1
theorem Inv.mod (I:Inv X aA σ H s):Mod X.K X.mg X.base:=I.ok.mod
theorem Inv.kIn (I:Inv X aA σ H s):X.K.In s.heap:=I.ok.mod.kin.keeps I.bk
theorem Inv.lt (I:Inv X aA σ H s):X.env.locals<s.heap.objs.size:=let ⟨_,e,_⟩:=I.loc;e.lt
theorem Inv.sz (I:Inv X aA σ H s):X.s₀.heap.objs.size<=s.heap.objs.size:=Aq I.ok.above (Cm I.lt)
theorem Inv.nofs (I:Inv X aA σ H s){a:Addr}(h:s.heap.objs.size<=a):a∉X.fs:=λe=>by
 obtain⟨_,o,ho,_⟩:=I.ok.funs.mem e;exact absurd (Ab8 (Ab3 ho) (Aq I.sz h)) (Ad9 _)
theorem Inv.cne (I:Inv X aA σ H s):∀x c,X.env.cells.lookup x=some c->c≠X.env.locals:=λx c e z=>by
 obtain⟨v,o,ho,U⟩:=I.cell x c e;obtain⟨m,⟨R,M,J,Y,j,_⟩,_⟩:=I.loc;rw[z,Y]at ho;cases ho;rw[j]at U;cases U
theorem Inv.funs (I:Inv X aA σ H s):s.heap.FunFrames X.base X.outer:=by
 have all:∀(l:List Env),(∀b∈frs l,b∈X.fs)->X.s₀.heap.FunFrames X.base l->s.heap.FunFrames X.base l:=by
  intro l;induction l with
  | nil=>intro _ _;trivial
  | cons U r F=>
   intro Y R;obtain⟨M,⟨L,o,m,Q,ho,J⟩,D⟩:=R;have j:=Y L (by unfold frs;rw[Be,m];exact Az)
   obtain⟨sl,e⟩:=I.base.slot L o ho (I.ok.frf L j) j λz=>I.ok.exfs L z j
   exact⟨M,⟨L,_,m,Q,e,J⟩,F (λb c=>Y b (by unfold frs;rw[Be,m];exact Ad4 _ c)) D⟩
 exact all X.outer (λ_ c=>c) I.ok.funs
theorem Inv.stack (I:Inv X aA σ H s):s.heap.FunFrames X.base X.stack:=by
 rcases I.ok.stk with e | ⟨e,j⟩
 .rw[e];exact I.funs
 .rw[e];obtain⟨m,c,_⟩:=I.loc;exact .cons (by rw[I.ok.kind];decide) j c (Heap.get?_none_of_le (Aq I.ok.bsz I.ok.above)) I.funs
theorem Inv.stkSub (I:Inv X aA σ H s):∀b∈frs X.stack,b∈X.env.locals::X.fs:=λb j=>by
 rcases I.ok.stk with e | ⟨e,c⟩
 .rw[e]at j;exact Ad4 _ j
 .rw[e]at j;unfold frs at j;rw[Be,c]at j;exact j
theorem Inv.stkFree (I:Inv X aA σ H s):∀b∈frs X.stack,H b=none:=λb hb=>by
 rcases Aa1.mp (I.stkSub b hb) with e | hb
 .rw[e];exact I.free
 .obtain⟨_,o,ho,_⟩:=I.ok.funs.mem hb;exact I.base.free b o ho (I.ok.frf b hb) λz=>I.ok.exfs b z hb
theorem Inv.step {g':Array GenState}{t':Nat}{d':Drawn}{ch:AM}(I:Inv X aA σ H s)
  (U:∀b∈ch,(b∈X.ex\/X.s₀.heap.objs.size<=b)/\b≠X.env.locals/\(∀x c,X.env.cells.lookup x=some c->c≠b)/\∀p∈X.pn++aA,p.1≠b)
  (keep:∀b o,b≠X.env.locals->b∉X.fs->b∉ch->s.heap.get? b=some o->H b=none->h'.get? b=some o)
  (slot:∀b o,b≠X.env.locals->b∈X.fs->b∉ch->s.heap.get? b=some o->H b=none->∃sl,h'.get? b=some {o with slots:=sl}) (free:∀b o,b∉ch->s.heap.get? b=some o->H b=none->H' b=none)
  (D:∀b o,b∉ch->s.heap.get? b=some o->∃o',h'.get? b=some o')
  (tups:∀b xs,H b=some (.tup xs)->H' b=some (.tup xs)) (B:∀b o u,H b=some (.frz o u)->H' b=some (.frz o u)) (tbls:∀b ps,H b=some (.tbl ps)->∃more,H' b=some (.tbl (ps++more)))
  (ns:∀m,s.heap.Ns X.env.locals m->h'.Ns X.env.locals m) (hok:HOk X.prog X.w H' h') (hg:AllBare g') :
  Inv X aA σ H' {s with heap:=h',gens:=g',drawn:=d',toks:=t'}:=by
 have P:∀b o,X.s₀.heap.get? b=some o->b≠X.env.locals:=λb o e=>Ab9 (Ab8 (Ab3 e) I.ok.above)
 have R:∀b o,X.s₀.heap.get? b=some o->b∉X.ex->b∉ch:=λb o e j Q=>by
  rcases (U b Q).1 with z | z
  .exact j z
  .exact absurd (Ab8 (Ab3 e) z) (Ad9 _)
 have Y:∀x c,X.env.cells.lookup x=some c->∀v,s.heap.IsCell c v->h'.IsCell c v:=by
  rintro x c e v ⟨o,ho,hd⟩;have J:=λz=>(U c z).2.2.1 x c e rfl
  by_cases hc:c∈X.fs
  .obtain⟨sl,q⟩:=slot c o (I.cne x c e) hc J ho (I.freeC x c e);exact⟨_,q,hd⟩
  .exact⟨o,keep c o (I.cne x c e) hc J ho (I.freeC x c e),hd⟩
 refine⟨I.ok,I.os,hg,⟨λb o e n Q j=>?_,λb o e n Q j=>?_,λb o e n j=>?_,λb o e j=>?_,λb xs e=>tups b xs (I.base.tups b xs e),λb o xs e=>B b o xs (I.base.frzs b o xs e),λb ps e=>?_⟩,?_,λx c e=>?_,?_,λx c e=>?_,λp hp=>?_,hok,I.len⟩
 .exact keep b o (P b o e) Q (R b o e j) (I.base.keep b o e n Q j) (I.base.free b o e n j)
 .obtain⟨sl,M⟩:=I.base.slot b o e n Q j;obtain⟨sl',F⟩:=slot b _ (P b o e) Q (R b o e j) M (I.base.free b o e n j);exact⟨sl',F⟩
 .obtain⟨o',M⟩:=I.base.there b o e j;exact free b o' (R b o e j) M (I.base.free b o e n j)
 .obtain⟨o',M⟩:=I.base.there b o e j;exact D b o' (R b o e j) M
 .obtain⟨m1,M⟩:=I.base.tbls b ps e;obtain⟨m2,F⟩:=tbls b _ M;exact⟨m1++m2,by rw[F,Array.append_assoc]⟩
 .obtain⟨m,hn,hl⟩:=I.loc;refine⟨m,ns m hn,λi x v M F e3=>?_⟩
  obtain⟨u,r,l⟩:=hl i x v M F e3;refine⟨u,r,?_⟩;rcases l with l | ⟨k,c,e,z⟩
  .exact .inl l
  .exact .inr ⟨k,c,e,Y x c e _ z⟩
 .obtain⟨v,z⟩:=I.cell x c e;exact⟨v,Y x c e v z⟩
 .obtain⟨m,⟨o,_,_,ho,_⟩,_⟩:=I.loc;exact free _ o (λz=>(U _ z).2.1 rfl) ho I.free
 .obtain⟨v,o,ho,hd⟩:=I.cell x c e;exact free c o (λz=>(U c z).2.2.1 x c e rfl) ho (I.freeC x c e)
 .obtain⟨e,n,ne,nf,d⟩:=I.pin p hp;have J:=λz=>(U p.1 z).2.2.2 p hp rfl
  exact⟨keep p.1 p.2 ne nf J e n,free p.1 p.2 J e n,ne,nf,d⟩
theorem Inv.un (I:Inv X aA σ H s)(u:Un X.fs [] H H' s.heap h')(J:HOk X.prog X.w H' h'):Inv X aA σ H' {s with heap:=h',toks:=t'}:=by
 obtain⟨m,⟨o,F,D,ho,r⟩,_⟩:=id I.loc;obtain⟨sl,M⟩:=u.any ho I.free SS
 exact I.step (ch:=[]) (λ_ z=>nomatch z) (λb o _ U _ e n=>u.keep b o e n U SS) (λb o _ U _ e n=>u.slot b o e n U SS) (λb o _ e n=>u.free b o e n SS) (λb o _ e=>u.there b o e SS) u.tups u.frzs u.tbls (λB R=>by
  obtain⟨P,Y,c,j,Q⟩:=R;rw[ho]at j;cases j;exact⟨_,Y,c,M,Q⟩) J I.bare
theorem Inv.call (I:Inv X aA σ H s)(u:Un (frs X.stack) ch H H' s.heap h')(Q:HOk X.prog X.w H' h')(F:AllBare g')
  (Y:∀b∈ch,(b∈X.ex\/X.s₀.heap.objs.size<=b)/\b≠X.env.locals/\(∀x c,X.env.cells.lookup x=some c->c≠b)/\∀p∈X.pn++aA,p.1≠b) :
  Inv X aA σ H' {s with heap:=h',gens:=g',drawn:=d',toks:=t'}:=by
 obtain⟨m,⟨o,es,ep,ho,r⟩,_⟩:=id I.loc;obtain⟨sl,R⟩:=u.any ho I.free λz=>(Y _ z).2.1 rfl
 exact I.step Y (λb o R D j e n=>u.keep b o e n (λz=>(Aa1.mp (I.stkSub b z)).elim R D) j) (λb o _ _ j e n=>u.any e n j) (λb o j e n=>u.free b o e n j) (λb o j e=>u.there b o e j) u.tups u.frzs u.tbls (λm' B=>by
  obtain⟨o',M,J,U,P⟩:=B;rw[ho]at U;cases U;exact⟨_,M,J,R,P⟩) Q F
theorem Inv.turned (I:Inv X aA σ H s)(k:∀b o,b≠it->s.heap.get? b=some o->h'.get? b=some o)(B:H it=none)(U:it≠X.env.locals)
  (h1:it∈X.ex\/X.s₀.heap.objs.size<=it) (R:∀x c,X.env.cells.lookup x=some c->c≠it) (Q:∀p∈X.pn++aA,p.1≠it):Inv X aA σ H {s with heap:=h',toks:=t'}:=by
 have Y:∀b u,H b=some u->b≠it:=λb u e z=>by rw[z,B]at e;cases e
 refine I.step (ch:=[it]) (λb D=>?_) (λb o _ _ j e _=>k b o (λz=>j (by simp[z])) e) (λb o _ _ j e _=>⟨o.slots,k b o (λz=>j (by simp[z])) e⟩) (λ_ _ _ _ n=>n)
  (λb o j e=>⟨o,k b o (λz=>j (by simp[z])) e⟩) (λ_ _ e=>e) (λ_ _ _ e=>e) (λb ps e=>⟨#[],by rw[e];simp⟩) (λm F=>?_) (λb u e=>?_) I.bare
 .have e:b=it:=by simpa using D
  subst e;exact⟨h1,U,R,Q⟩
 .obtain⟨o,M,J,ho,r⟩:=F;exact⟨o,M,J,k _ o (Ne.symm U) ho,r⟩
 .refine(I.hok b u e).stay (λc v j q=>k c v ?_ q) (λ_ q=>q) λ_ _ q=>q
  rcases j with z | z
  .rw[z];exact Y b u e
  .exact Y c _ z
theorem Inv.tok (I:Inv X aA σ H s)(t:Nat):Inv X aA σ H {s with toks:=t}:=I.un Un.refl I.hok
theorem Inv.kept (I:Inv X aA σ H s)(k:∀b u,s.heap.get? b=some u->h'.get? b=some u):Inv X aA σ H {s with heap:=h',toks:=t'}:=I.un (Un.kept k) (I.hok.kept k)
theorem Inv.laid {a:Addr}(I:Inv X aA σ H s)(k:∀b u,s.heap.get? b=some u->h'.get? b=some u)(hp:s.heap.objs.size<=a)(e:ObjOk X.prog X.w (upd H a o) h' a o) :
  Inv X aA σ (upd H a o) {s with heap:=h',toks:=t'}:=I.un (Un.laid k hp (I.hok.fresh hp)) (I.hok.laid k hp e)
theorem Inv.write (I:Inv X aA σ H s)(mu:Mut (H x))(m:e=x\/H e=some (.own x))(k:∀b u,b≠e->s.heap.get? b=some u->h'.get? b=some u)(j:∃u,h'.get? e=some u)
  (c:ObjOk X.prog X.w (upd H x o) h' x o):Inv X aA σ (upd H x o) {s with heap:=h',toks:=t'}:=I.un (Un.write mu m k j) (I.hok.write mu m k j c)
theorem Inv.weak (I:Inv X aA σ H s)(U:σ'.length=σ.length)(w:∀(i:Nat) v,σ'[i]? = some (some v)->σ[i]? = some (some v)):Inv X aA σ' H s:=
 ⟨I.ok,I.os,I.bare,I.base,let ⟨m,J,e⟩:=I.loc;⟨m,J,λi x v j c Y=>e i x v j (w i v c) Y⟩,I.cell,I.free,I.freeC,I.pin,I.hok,U.trans I.len⟩
theorem Inv.pins_of (I:Inv X aA σ H s)(h:∀p∈pins',s.heap.get? p.1=some p.2/\H p.1=none/\p.1≠X.env.locals/\p.1∉X.fs/\∀v,p.2.data≠.cell v):Inv X pins' σ H s:=
 ⟨I.ok,I.os,I.bare,I.base,I.loc,I.cell,I.free,I.freeC,λp hp=>(Aa0.mp hp).elim (λz=>I.pin p (Ak _ z)) (h p),I.hok,I.len⟩
theorem bS7 {N:AJ}(hN:N.Nodup){i j:Nat}(a:N[i]? = some x)(b:N[j]? = some x):i=j:=by
 obtain⟨h1,e⟩:=Ab0.mp a;obtain⟨m,c⟩:=Ab0.mp b;exact(List.getElem_inj hN).mp (e.trans c.symm)
theorem bG9 (I:Inv X aA σ H s)(hN:X.N.Nodup)(hi:X.N[i]? = some x)(R:Loc X.env.scope x)(r:RelV v u)
  (h:∀s',Inv X aA (σ.set i (some v)) H s'->(∃a,Heap.SameBut a s.heap s'.heap/\(a=X.env.locals\/X.env.cells.lookup x=some a))->Q () s') (hf:X.fn x=true\/X.env.scope.names.lookup x=some .local:=by first | exact .inl rfl | exact .inr rfl | assumption):wpAny M A (storeName X.env x u) Q E s:=by
 obtain⟨m,hn,hl⟩:=id I.loc;have hcls:(X.env.scope.kind == .class||(X.env.scope.kind == .module&&X.env.locals != X.env.globals))=false:=by rw[I.ok.kind];rfl
 have hiσ:i<σ.length:=by rw[I.len];exact(Ab0.mp hi).1
 have cne:=I.cne
 have J:∀{a:Addr} {h':Heap},(∃o,s.heap.get? a=some o/\H a=none)->Heap.SameBut a s.heap h'->HOk X.prog X.w H h':=λ{a h'} ha Y b ob e=>by
  obtain⟨_,_,D⟩:=ha;refine(I.hok b ob e).stay (λc w' hc q=>(Y.2 c ?_).trans q) (λ_ q=>q) λ_ _ q=>q
  rintro rfl;rcases hc with rfl | hc
  .rw[D]at e;cases e
  .rw[D]at hc;cases hc
 rcases R with hk | hk
 .refine wpAny_storeName_local hk hn (λh' hn' Y=>?_) hcls
  obtain⟨oL,_,_,hoL,_⟩:=id hn;refine h _ ⟨I.ok,I.os,I.bare,⟨λb o e n B R=>((Y.2 b (Ab9 (Ab8 (Ab3 e) I.ok.above))).trans (I.base.keep b o e n B R)),λb o e n B R=>?_,I.base.free,λb o e R=>?_,I.base.tups,I.base.frzs,I.base.tbls⟩,⟨_,hn',λj y v' U F e3=>?_⟩,λy c e=>?_,I.free,I.freeC,λp hp=>?_,J ⟨oL,hoL,I.free⟩ Y,by simpa using I.len⟩ ⟨_,Y,.inl rfl⟩
  .obtain⟨sl,U⟩:=I.base.slot b o e n B R;exact⟨sl,(Y.2 b (Ab9 (Ab8 (Ab3 e) I.ok.above))).trans U⟩
  .obtain⟨o',U⟩:=I.base.there b o e R;exact⟨o',(Y.2 b (Ab9 (Ab8 (Ab3 e) I.ok.above))).trans U⟩
  .by_cases hj:j=i
   .subst hj;rw[hi]at U;cases U;rw[Bg hiσ]at F;cases F;exact⟨u,r,.inl ⟨hk,SS⟩⟩
   .rw[Ad0 (Ne.symm hj)]at F;obtain⟨u',r',q⟩:=hl j y v' U F e3;refine⟨u',r',?_⟩;rcases q with⟨k,e⟩ | ⟨k,c,e,z⟩
    .refine .inl ⟨k,?_⟩
     have:y≠x:=λe=>hj (bS7 hN U (e▸hi))
     simp[this,e]
    .exact .inr ⟨k,c,e,z.sameBut Y (cne y c e)⟩
  .obtain⟨w',z⟩:=I.cell y c e;exact⟨w',z.sameBut Y (cne y c e)⟩
  .obtain⟨e,n,ne,nf,d⟩:=I.pin p hp;exact⟨(Y.2 p.1 ne).trans e,n,ne,nf,d⟩
 .have P:X.fn x=true:=by
   rcases hf with z | z
   .exact z
   .rw[z]at hk;cases hk
  obtain⟨c,hc⟩:=I.ok.has x (.inl hk);obtain⟨w',z⟩:=I.cell x c hc;refine wpAny_storeName_cell I.ok.kind hk hc z (λh' hc' Y=>?_)
  obtain⟨oc,hoc,hocd⟩:=id z;refine h {s with heap:=h'} ⟨I.ok,I.os,I.bare,⟨λb o e n B R=>?_,λb o e n B R=>?_,I.base.free,λb o e R=>?_,I.base.tups,I.base.frzs,I.base.tbls⟩,⟨m,hn.sameBut Y (Ne.symm (cne x c hc)),λj y v' U F e3=>?_⟩,λy c' e=>?_,I.free,I.freeC,λp hp=>?_,J ⟨oc,hoc,I.freeC x c hc⟩ Y,by simpa using I.len⟩ ⟨c,Y,.inr hc⟩
  .exact(Y.2 b (Ab9 (Ab8 (Ab3 e) (I.ok.cab x c P hc)))).trans (I.base.keep b o e n B R)
  .obtain⟨sl,U⟩:=I.base.slot b o e n B R;exact⟨sl,(Y.2 b (Ab9 (Ab8 (Ab3 e) (I.ok.cab x c P hc)))).trans U⟩
  .obtain⟨o',U⟩:=I.base.there b o e R;exact⟨o',(Y.2 b (Ab9 (Ab8 (Ab3 e) (I.ok.cab x c P hc)))).trans U⟩
  .by_cases hj:j=i
   .subst hj;rw[hi]at U;cases U;rw[Bg hiσ]at F;cases F;exact⟨u,r,.inr ⟨.inl hk,c,hc,hc'⟩⟩
   .rw[Ad0 (Ne.symm hj)]at F;obtain⟨u',r',q⟩:=hl j y v' U F e3;refine⟨u',r',?_⟩;rcases q with q | ⟨k,c',e,z'⟩
    .exact .inl q
    .refine .inr ⟨k,c',e,z'.sameBut Y ?_⟩;rintro rfl;exact hj (bS7 hN U (I.ok.inj _ _ _ e hc▸hi))
  .by_cases hcc:c'=c
   .subst hcc;exact⟨_,hc'⟩
   .obtain⟨w2,z2⟩:=I.cell y c' e;exact⟨w2,z2.sameBut Y hcc⟩
  .obtain⟨e,n,ne,nf,d⟩:=I.pin p hp;refine⟨(Y.2 p.1 ?_).trans e,n,ne,nf,d⟩;intro q;rw[q,hoc]at e;have q':=Ab4 e;exact d w' (by rw[<- q'];exact hocd)
theorem aZ5 (I:Inv X aA σ H s)(hN:X.N.Nodup)(hi:X.N[i]? = some x)(c:Loc X.env.scope x)(r:RelV v u)
  (h:∀s',Inv X aA (σ.set i (some v)) H s'->Q () s') (j:X.fn x=true\/X.env.scope.names.lookup x=some .local:=by first | exact .inl rfl | exact .inr rfl | assumption):wpAny M A (storeName X.env x u) Q E s:=
 bG9 I hN hi c r (λs' e _=>h s' e) j
theorem Inv.call' (I:Inv X aA σ H s)(ho:s'.os=s.os)(u:Un (frs X.stack) ch H H' s.heap s'.heap)(m:HOk X.prog X.w H' s'.heap)(Y:AllBare s'.gens)
  (j:∀b∈ch,(b∈X.ex\/X.s₀.heap.objs.size<=b)/\b≠X.env.locals/\(∀x c,X.env.cells.lookup x=some c->c≠b)/\∀p∈X.pn++aA,p.1≠b):Inv X aA σ H' s':=by
 obtain⟨h',J,U,R,M⟩:=s';have e:=ho;subst e;exact I.call u m Y j
end
abbrev XK:=Value->AL->Hp->Prop
abbrev St:=List (Option V)
abbrev VK:=V->Hp->Prop
abbrev TE:=St->Hp->VK->Prop
abbrev TT:=St->Hp->(Bool->Hp->Prop)->Prop
abbrev TA:=St->Hp->(List V->Hp->Prop)->Prop
structure bF1 where
 nx:St->Hp->Prop
 rt:VK
 bk:St->Hp->Prop:=λ_ _=>False
 ct:St->Hp->Prop:=λ_ _=>False
abbrev TS:=bF1->St->Hp->Prop
def EP (X:Cx)(aA:Ee)(σ:St)(Q:VK)(u:Value)(s':Shared):Prop:=∃v H',Inv X aA σ H' s'/\RelV v u/\Q v H'
def TP (X:Cx)(aA:Ee)(σ:St)(Q:Bool->Hp->Prop)(b:Bool)(s':Shared):Prop:=∃H',Inv X aA σ H' s'/\Q b H'
def AP (X:Cx)(aA:Ee)(σ:St)(Q:List V->Hp->Prop)(us:AH)(s':Shared):Prop:=∃vs H',Inv X aA σ H' s'/\Vals vs us/\Q vs H'
def SP (X:Cx)(aA:Ee)(D:bF1)(f:Flow)(s':Shared):Prop:=
 match f with
 | .next=>∃σ' H',Inv X aA σ' H' s'/\D.nx σ' H'
 | .brk=>∃σ' H',Inv X aA σ' H' s'/\D.bk σ' H'
 | .cont=>∃σ' H',Inv X aA σ' H' s'/\D.ct σ' H'
 | .ret u=>∃v σ' H',Inv X aA σ' H' s'/\RelV v u/\D.rt v H'
structure PE (X:Cx)(e:Expr)(t:TE):Prop where
 mk ::
 run :
  ∀(aA:Ee) (s:Shared) (σ:St) (H:Hp) (Q:VK),Inv X aA σ H s->t σ H Q->wpAny (model X.prog X.w) X.A (eval e X.env) (EP X aA σ Q) X.xe s
instance {X:Cx} {e:Expr} {t:TE}:CoeFun (PE X e t) λ_=>
 (∀(aA:Ee) (s:Shared) (σ:St) (H:Hp) (Q:VK),Inv X aA σ H s->t σ H Q->wpAny (model X.prog X.w) X.A (eval e X.env) (EP X aA σ Q) X.xe s):=⟨PE.run⟩
structure PT (X:Cx)(e:Expr)(t:TT):Prop where
 mk ::
 run :
  ∀(aA:Ee) (s:Shared) (σ:St) (H:Hp) (Q:Bool->Hp->Prop),Inv X aA σ H s->t σ H Q->wpAny (model X.prog X.w) X.A (isTrue e X.env (eval e X.env)) (TP X aA σ Q) X.xe s
instance {X:Cx} {e:Expr} {t:TT}:CoeFun (PT X e t) λ_=>
 (∀(aA:Ee) (s:Shared) (σ:St) (H:Hp) (Q:Bool->Hp->Prop),Inv X aA σ H s->t σ H Q->wpAny (model X.prog X.w) X.A (isTrue e X.env (eval e X.env)) (TP X aA σ Q) X.xe s):=⟨PT.run⟩
structure PW (X:Cx)(e:Expr)(t:TT):Prop where
 mk ::
 run :
  ∀(whole:Sem Value) (aA:Ee) (s:Shared) (σ:St) (H:Hp) (Q:Bool->Hp->Prop),Inv X aA σ H s->t σ H Q->wpAny (model X.prog X.w) X.A (isTrue e X.env whole) (TP X aA σ Q) X.xe s
instance {X:Cx} {e:Expr} {t:TT}:CoeFun (PW X e t) λ_=>
 (∀(whole:Sem Value) (aA:Ee) (s:Shared) (σ:St) (H:Hp) (Q:Bool->Hp->Prop),Inv X aA σ H s->t σ H Q->wpAny (model X.prog X.w) X.A (isTrue e X.env whole) (TP X aA σ Q) X.xe s):=⟨PW.run⟩
theorem PW.pt (h:PW X e t):PT X e t:=⟨h _⟩
structure PA (X:Cx)(es:AN)(t:TA):Prop where
 mk ::
 run :
  ∀(pos:Pos) (aA:Ee) (s:Shared) (σ:St) (H:Hp) (Q:List V->Hp->Prop),Inv X aA σ H s->t σ H Q->wpAny (model X.prog X.w) X.A (spliced (backTo pos (starEach es X.env))) (AP X aA σ Q) X.xe s
instance {X:Cx} {es:AN} {t:TA}:CoeFun (PA X es t) λ_=>
 (∀(pos:Pos) (aA:Ee) (s:Shared) (σ:St) (H:Hp) (Q:List V->Hp->Prop),Inv X aA σ H s->t σ H Q->wpAny (model X.prog X.w) X.A (spliced (backTo pos (starEach es X.env))) (AP X aA σ Q) X.xe s):=⟨PA.run⟩
structure PS (X:Cx)(st:Stmt)(t:TS):Prop where
 mk ::
 run :
  ∀(aA:Ee) (s:Shared) (σ:St) (H:Hp) (D:bF1),Inv X aA σ H s->t D σ H->wpAny (model X.prog X.w) X.A (exec st X.env) (SP X aA D) X.xe s
instance {X:Cx} {st:Stmt} {t:TS}:CoeFun (PS X st t) λ_=>
 (∀(aA:Ee) (s:Shared) (σ:St) (H:Hp) (D:bF1),Inv X aA σ H s->t D σ H->wpAny (model X.prog X.w) X.A (exec st X.env) (SP X aA D) X.xe s):=⟨PS.run⟩
structure PSs (X:Cx)(st:List Stmt)(t:TS):Prop where
 mk ::
 run :
  ∀(aA:Ee) (s:Shared) (σ:St) (H:Hp) (D:bF1),Inv X aA σ H s->t D σ H->wpAny (model X.prog X.w) X.A (execs st X.env) (SP X aA D) X.xe s
instance {X:Cx} {st:List Stmt} {t:TS}:CoeFun (PSs X st t) λ_=>
 (∀(aA:Ee) (s:Shared) (σ:St) (H:Hp) (D:bF1),Inv X aA σ H s->t D σ H->wpAny (model X.prog X.w) X.A (execs st X.env) (SP X aA D) X.xe s):=⟨PSs.run⟩
theorem thn {Q Q':α->Shared->Prop}(h:wpAny M A t Q E s)(e:∀a s,Q a s->Q' a s):wpAny M A t Q' E s:=wpAny_mono h e λ_ _ x=>x
section
def F6 (i:Nat):TE:=λσ H Q=>∃v,σ[i]? = some (some v)/\Q v H
def tC (v:V):TE:=λ_ H Q=>Q v H
theorem dQ5 {pos:Pos}(hN:X.N[i]? = some x)(B:Vis X.env.scope x)(U:(x==("__debug__" : Str))=false:=by decide)(Y:(x==("__classdict__" : Str))=false:=by decide):PE X (.Name x pos) (F6 i):=by
 refine⟨?_⟩;intro M s σ H Q I h;obtain⟨v,e,h⟩:=h;obtain⟨m,F,R⟩:=I.loc;obtain⟨u,r,l⟩:=R i x v hN e B;have fin:EP X M σ Q u s:=⟨v,H,I,r,h⟩;rcases l with⟨hk,D⟩ | ⟨hk,c,J,j⟩
 .exact wpAny_Name (wpAny_loadName_local I.ok.kind hk F D fin) U
 .rcases hk with hk | hk
  .exact wpAny_Name (wpAny_loadName_cell I.ok.kind hk J j fin) U
  .exact wpAny_Name (wpAny_loadName_free I.ok.kind hk J j fin Y) U
theorem A8:PE X (.Constant (.int i) j pos) (tC (.int i)):=⟨λ_ _ _ H _ I h=>wpAny_Constant_int ⟨.int i,H,I.tok _,⟨_,rfl⟩,h⟩⟩
theorem Y2:PE X (.Constant (.bool b) j pos) (tC (.bl b)):=⟨λ_ _ _ H _ I h=>Constant_bool ⟨.bl b,H,I,rfl,h⟩⟩
def Gl (X:Cx)(x:Str):Prop:=X.env.kindOf x=some .globalImplicit
theorem cL1 {σ:St}(I:Inv X aA σ H s)(j:Gl X x)(c:X.mg x=some u)(h:Q u s)
  (e:(x==("__debug__" : Str))=false:=by decide):wpAny (model X.prog X.w) X.A (eval (.Name x pos) X.env) Q E s:=
 Calls.Name_function_global I.ok.kind j (Calls.loadGlobal_global (by rw[I.ok.glob];exact I.mod.glob.keeps I.bk) c h) e
theorem y4 {E:Ed}{σ:St}{pos:Pos}(I:Inv X aA σ H s)(c:Gl X x)(m:X.mg x=none)(U:bootBuiltins x=some u)(h:Q u s)
  (Y:x≠"__name__" := by decide) (j:(x==("__debug__" : Str))=false:=by decide):wpAny (model X.prog X.w) X.A (eval (.Name x pos) X.env) Q E s:=by
 obtain⟨J,h1,e⟩:=I.mod.blt;exact Calls.Name_function_global I.ok.kind c (Calls.loadGlobal_builtin (by rw[I.ok.glob];exact I.mod.glob.keeps I.bk) m (by rw[I.ok.blt];exact h1.keeps I.bk) ((e x Y).trans U) h) j
theorem aW3 (j:Gl X x)(c:X.mg x=some u)(r:RelV v u)(e:(x==("__debug__" : Str))=false:=by decide):PE X (.Name x pos) (tC v):=⟨λ_ _ _ H _ I h=>cL1 I j c ⟨v,H,I,r,h⟩ e⟩
theorem dG6 {pos:Pos}(j:Gl X x)(c:X.mg x=none)(m:bootBuiltins x=some u)(r:RelV v u)(s:x≠"__name__" := by decide)(e:(x==("__debug__" : Str))=false:=by decide):PE X (.Name x pos) (tC v):=⟨λ_ _ _ H _ I h=>y4 I j c m ⟨v,H,I,r,h⟩ s e⟩
def t2I (ta tb:TE)(k:Int->Int->Hp->Prop):St->Hp->Prop:=λσ H=>ta σ H λx H1=>tb σ H1 λy H2=>∃i j,x=.int i/\y=.int j/\k i j H2
structure PC (X:Cx)(op:CmpOp)(a b:Expr)(t:TE):Prop where
 mk ::
 run :
  ∀(aA:Ee) (s:Shared) (σ:St) (H:Hp) (Q:VK),Inv X aA σ H s->t σ H Q ->
   wpAny (model X.prog X.w) X.A (eval a X.env) (λv s₁=>wpAny (model X.prog X.w) X.A (eval b X.env) (λu s₂=>wpAny (model X.prog X.w) X.A (compareOp op v u) (EP X aA σ Q) X.xe s₂) X.xe s₁) X.xe s
instance {X:Cx} {op:CmpOp} {a b:Expr} {t:TE}:CoeFun (PC X op a b t) λ_=>
 (∀(aA:Ee) (s:Shared) (σ:St) (H:Hp) (Q:VK),Inv X aA σ H s->t σ H Q ->
  wpAny (model X.prog X.w) X.A (eval a X.env) (λv s₁=>wpAny (model X.prog X.w) X.A (eval b X.env) (λu s₂=>wpAny (model X.prog X.w) X.A (compareOp op v u) (EP X aA σ Q) X.xe s₂) X.xe s₁) X.xe s):=⟨PC.run⟩
def cM7 (p:Int->Int->Bool)(ta tb:TE):TE:=λσ H Q=>t2I ta tb (λi j H2=>Q (.bl (p i j)) H2) σ H
abbrev tLt:TE->TE->TE:=cM7 λi j=>decide (i<j)
abbrev tLe:TE->TE->TE:=cM7 λi j=>decide (i<=j)
abbrev tGt:TE->TE->TE:=cM7 λi j=>decide (j<i)
abbrev tGe:TE->TE->TE:=cM7 λi j=>decide (j<=i)
abbrev eI0:TE->TE->TE:=cM7 λi j=>decide (i=j)
abbrev eH5:TE->TE->TE:=cM7 λi j => !decide (i=j)
def tB (t:TE):TT:=λσ H Q=>t σ H λx H1=>∃c,x=.bl c/\Q c H1
theorem P3 (h:PE X e t)(m:∀whole,isTrue e X.env whole=(do let v <- whole;standAt e.pos;holding [v] (truthy v)):=by intro _;rfl):PT X e (tB t):=by
 refine⟨?_⟩;intro c s σ H Q I Y;refine isTrue_plain (thn (h c s σ H _ I Y) λv M pz=>?_) (m _)
 obtain⟨x,H1,j,J,U⟩:=pz;obtain⟨d,rfl,q⟩:=U;cases J;exact wpAny_truthy_bool ⟨H1,j,q⟩
def eC9 (t u:TT):TT:=λσ H Q=>t σ H λc H1=>if c=true then u σ H1 Q else Q false H1
def tOr (t u:TT):TT:=λσ H Q=>t σ H λc H1=>if c=true then Q true H1 else u σ H1 Q
def eB5 (t:TT):TT:=λσ H Q=>t σ H λc H1=>Q (!c) H1
theorem aX6 (m:PT X a tA):PW X (.BoolOp .And [a] pos) tA:=by
 refine⟨?_⟩;intro U j s σ H Q I h;refine isTrue_and (thn (m j s σ H Q I h) λc Y e=>?_)
 cases c with
 | true=>exact isTrue_and_nil e
 | false=>exact e
theorem aY8 (m:PT X a tA):PW X (.BoolOp .Or [a] pos) tA:=by
 refine⟨?_⟩;intro U j s σ H Q I h;refine isTrue_or (thn (m j s σ H Q I h) λc Y e=>?_)
 cases c with
 | false=>exact isTrue_or_nil e
 | true=>exact e
theorem aJ6 (Y:PT X a tA)(U:PW X (.BoolOp .And (b::rest) pos) tB'):PW X (.BoolOp .And (a::b::rest) pos) (eC9 tA tB'):=by
 refine⟨?_⟩;intro M j s σ H Q I h;refine isTrue_and (thn (Y j s σ H _ I h) λc J pz=>?_)
 obtain⟨H1,e,m⟩:=pz;cases c with
 | true=>exact U M j J σ H1 Q e m
 | false=>exact⟨H1,e,m⟩
theorem bD7 (Y:PT X a tA)(U:PW X (.BoolOp .Or (b::rest) pos) tB'):PW X (.BoolOp .Or (a::b::rest) pos) (tOr tA tB'):=by
 refine⟨?_⟩;intro M j s σ H Q I h;refine isTrue_or (thn (Y j s σ H _ I h) λc J pz=>?_)
 obtain⟨H1,e,m⟩:=pz;cases c with
 | true=>exact⟨H1,e,m⟩
 | false=>exact U M j J σ H1 Q e m
theorem W8 (j:PT X a tA):PT X (.UnaryOp .Not a pos) (eB5 tA):=by
 refine⟨?_⟩;intro e s σ H Q I h;exact isTrue_not (j e s σ H (λc H1=>Q (!c) H1) I h)
def dK5 (ta tb:TE):TE:=λσ H Q=>ta σ H λx H1=>∃c,x=.bl c/\if c=true then tb σ H1 Q else Q (.bl false) H1
def dN6 (ta:TE):TE:=λσ H Q=>ta σ H λx H1=>∃c,x=.bl c/\Q (.bl (!c)) H1
theorem bZ0 (h:PE X a t):PE X (.BoolOp op [a] pos) t:=⟨λe s σ H Q I j=>BoolOp_one (h e s σ H Q I j)⟩
theorem bY9 (Y:PE X a ta)(U:PE X (.BoolOp .And (b::rest) pos) tb):PE X (.BoolOp .And (a::b::rest) pos) (dK5 ta tb):=by
 refine⟨?_⟩;intro m s σ H Q I h;refine BoolOp_and (thn (Y m s σ H _ I h) λv M pz=>?_)
 obtain⟨x,H1,j,J,e⟩:=pz;obtain⟨c,rfl,e⟩:=e;cases J;refine wpAny_truthy_bool ?_;cases c with
 | true=>exact U m M σ H1 Q j e
 | false=>exact⟨.bl false,H1,j,rfl,e⟩
theorem dQ0 (Y:PE X a ta):PE X (.UnaryOp .Not a pos) (dN6 ta):=by
 refine⟨?_⟩;intro m s σ H Q I h;refine UnaryOp_ (thn (Y m s σ H _ I h) λv J pz=>?_)
 obtain⟨x,H1,j,U,e⟩:=pz;obtain⟨c,rfl,e⟩:=e;cases U;exact not_of (wpAny_truthy_bool ⟨.bl (!c),H1,j,rfl,e⟩)
def tIf (t:TT)(ta tb:TE):TE:=λσ H Q=>t σ H λc H1=>if c=true then ta σ H1 Q else tb σ H1 Q
theorem bS1 (M:PT X c tA)(U:PE X a ta)(J:PE X b tb):PE X (.IfExp c a b pos) (tIf tA ta tb):=by
 refine⟨?_⟩;intro e s σ H Q I h;refine wpAny_IfExp (thn (M e s σ H _ I h) λd Y pz=>?_)
 obtain⟨H1,j,m⟩:=pz;cases d with
 | true=>exact U e Y σ H1 Q j m
 | false=>exact J e Y σ H1 Q j m
end
def SqL (K:Frag)(H:Hp)(a:Addr)(xs:List V):Prop:=
 Rd H a (.lst xs) \/
  ∃(o:Obj) (its:AK) (n:Nat),K.lookup a=some o/\o.cls=.type "list" /\ o.dict=none/\o.data=.seq its n/\its.size<=sizeLine/\Vals xs its.toList
def SqT (K:Frag)(H:Hp)(a:Addr)(xs:List V):Prop:=
 Rd H a (.tup xs) \/
  ∃(o:Obj) (its:AK) (n:Nat),K.lookup a=some o/\o.cls=.type "tuple" /\ o.dict=none/\o.data=.seq its n/\its.size<=sizeLine/\Vals xs its.toList
def eG9:Value->Option V
 | .none=>some .non
 | .bool b=>some (.bl b)
 | .int i _=>some (.int i)
 | .str x _=>some (.str x)
 | .bytes b _=>some (.byt b)
 | .float b _=>some (.flt b)
 | .ref a=>some (.ref a)
 | .type n=>some (.ty n)
 | _=>none
theorem RelV.abs (r:RelV x u):eG9 u=some x:=by
 cases x with
 | non=>cases r;rfl
 | bl _=>cases r;rfl
 | int _=>obtain⟨t,rfl⟩:=r;rfl
 | str _=>obtain⟨t,rfl⟩:=r;rfl
 | byt _=>obtain⟨t,rfl⟩:=r;rfl
 | flt _=>obtain⟨t,rfl⟩:=r;rfl
 | ref _=>cases r;rfl
 | ty _=>cases r;rfl
theorem RelV.inj (r:RelV x u)(q:RelV y u):x=y:=Ab4 (r.abs.symm.trans q.abs)
theorem Vals.inj:∀{xs ys:List V} {us:AH},Vals xs us->Vals ys us->xs=ys
 | _,_,_,.nil,.nil=>rfl
 | _,_,_,.cons r t,.cons r' t'=>by rw[r.inj r',Vals.inj t t']
section
theorem SqL.of {K:Frag}(h:H a=some (.lst xs)):SqL K H a xs:=.inl (.inl h)
theorem SqT.of {K:Frag}(h:H a=some (.tup xs)):SqT K H a xs:=.inl (.inl h)
theorem Inv.list (I:Inv X aA σ H s)(h:SqL X.K H a xs):∃its:AH,Vals xs its/\PlainL s.heap a its.toArray/\xs.length<=sizeLine:=by
 rcases h with h | ⟨o,its,n,m,j,c,Y,U,r⟩
 .obtain⟨z,its,n,r,e⟩:=h.ok I.hok;exact⟨its,r,⟨_,n,e,rfl,rfl,rfl⟩,z⟩
 .refine⟨its.toList,r,⟨o,n,I.kIn a o m,j,c,by simpa using Y⟩,?_⟩
  have e:=r.length
  simp  [Bb]at e
  simp[*]
theorem Inv.tuple0 (I:Inv X aA σ H s)(h:SqT X.K H a xs):∃its:AH,Vals xs its/\Tup0 s.heap a its.toArray/\xs.length<=sizeLine:=by
 rcases h with h | ⟨o,its,n,m,j,c,Y,U,r⟩
 .obtain⟨z,its,r,p⟩:=h.ok I.hok;exact⟨its,r,p,z⟩
 .refine⟨its.toList,r,⟨o,I.kIn a o m,j,⟨n,by simpa using Y⟩,c⟩,?_⟩
  have e:=r.length
  simp  [Bb]at e
  simp[*]
theorem Inv.tuple (I:Inv X aA σ H s)(h:SqT X.K H a xs):∃its:AH,Vals xs its/\IsTup s.heap a its.toArray/\xs.length<=sizeLine:=by
 obtain⟨its,r,p,z⟩:=I.tuple0 h;exact⟨its,r,p.tup,z⟩
theorem Inv.list_inj (I:Inv X aA σ H s)(h:SqL X.K H a xs)(Y:SqL X.K H a ys):xs=ys:=by
 obtain⟨its,r,⟨o,n,e,_,_,d⟩,_⟩:=I.list h;obtain⟨j,U,⟨M,J,e',_,_,c⟩,_⟩:=I.list Y;rw[e]at e';cases e';rw[d]at c
 injection c with m _
 have:its=j:=by simpa using congrArg Array.toList m
 subst this;exact r.inj U
theorem Inv.tuple_inj (I:Inv X aA σ H s)(h:SqT X.K H a xs)(Y:SqT X.K H a ys):xs=ys:=by
 obtain⟨its,r,⟨o,e,_,n,d⟩,_⟩:=I.tuple h;obtain⟨j,U,⟨M,e',_,J,c⟩,_⟩:=I.tuple Y;rw[e]at e';cases e';rw[d]at c
 injection c with m _
 have:its=j:=by simpa using congrArg Array.toList m
 subst this;exact r.inj U
end
abbrev Cx.wish (X:Cx)(E:Ed):Cx:={X with xe:=E}
abbrev Cx.nox (X:Cx):Cx:=X.wish λ_ _=>False
theorem Cx.Ok.wish {X:Cx}(ok:X.Ok)(E:Ed):(X.wish E).Ok:=
 ⟨ok.mod,ok.kind,ok.glob,ok.blt,ok.above,ok.inj,ok.has,ok.cab,ok.hd,ok.frames,ok.stk,ok.exf,ok.bs,ok.bsz,ok.noex,ok.exfs,ok.funs,ok.frf⟩
theorem Cx.Ok.unwish {X:Cx}(ok:(X.wish E).Ok):X.Ok:=
 ⟨ok.mod,ok.kind,ok.glob,ok.blt,ok.above,ok.inj,ok.has,ok.cab,ok.hd,ok.frames,ok.stk,ok.exf,ok.bs,ok.bsz,ok.noex,ok.exfs,ok.funs,ok.frf⟩
section
theorem Inv.wish (I:Inv X aA σ H s)(E:Ed):Inv (X.wish E) aA σ H s:=⟨I.ok.wish E,I.os,I.bare,I.base,I.loc,I.cell,I.free,I.freeC,I.pin,I.hok,I.len⟩
theorem Inv.unwish (I:Inv (X.wish E) aA σ H s):Inv X aA σ H s:=⟨I.ok.unwish,I.os,I.bare,I.base,I.loc,I.cell,I.free,I.freeC,I.pin,I.hok,I.len⟩
theorem SP.unwish (h:SP (X.wish E) aA D f s'):SP X aA D f s':=by
 cases f with
 | next=>obtain⟨j,e,I,q⟩:=h;exact⟨j,e,I.unwish,q⟩
 | brk=>obtain⟨j,e,I,q⟩:=h;exact⟨j,e,I.unwish,q⟩
 | cont=>obtain⟨j,e,I,q⟩:=h;exact⟨j,e,I.unwish,q⟩
 | ret u=>obtain⟨v,j,e,I,r,q⟩:=h;exact⟨v,j,e,I.unwish,r,q⟩
theorem PSs.nox {st:List Stmt}(h:PSs X.nox st t):PSs X st t:=⟨λe s σ H D I j=>
 wpAny_mono (h e s σ H D (I.wish _) j) (λ_ _ q=>q.unwish) λ_ _ z=>False.elim z⟩
end
section
variable {X:Cx}{st:Stmt}{rest:List Stmt}{t u:TS}{e:Expr}{te:TE}{pos:Pos}
def dM0:TS:=λD σ H=>D.nx σ H
def dG2 (t u:TS):TS:=λD σ H=>t {D with nx:=u D} σ H
theorem F0:PSs X [] dM0:=⟨λ_ _ σ H _ I h=>wpAny_execs_nil ⟨σ,H,I,h⟩⟩
theorem A6 (h1:PS X st t)(Y:PSs X rest u):PSs X (st::rest) (dG2 t u):=by
 refine⟨?_⟩;intro j s σ H D I h;refine wpAny_execs_cons (thn (h1 j s σ H {D with nx:=u D} I h) λf U q=>?_)
 cases f with
 | next=>
  obtain⟨J,c,m,q⟩:=q;exact Y j U J c D m q
 | ret v=>exact q
 | brk=>exact q
 | cont=>exact q
theorem A9 (h1:PS X st t):PSs X [st] t:=by
 refine⟨?_⟩;intro j s σ H D I h;refine wpAny_execs_cons (thn (h1 j s σ H D I h) λf c q=>?_)
 cases f with
 | next=>exact wpAny_execs_nil q
 | ret v=>exact q
 | brk=>exact q
 | cont=>exact q
theorem Inv.quiet {σ:St}(I:Inv X aA σ H s):interactive X.env=false:=by simp[interactive,I.ok.kind]
def bK0 (te:TE):TS:=λD σ H=>te σ H λ_ H1=>D.nx σ H1
theorem E4 (m:PE X e te)(Y:swapsWith e none pos.line X.env=pure false:=by rfl):PS X (.Expr e pos) (bK0 te):=by
 refine⟨?_⟩;intro c s σ H D I h;exact wpAny_Expr_any (thn (m c s σ H _ I h) λv M ⟨x,H1,j,J,U⟩=>⟨σ,H1,j,U⟩) I.quiet Y
def cP4 (te:TE):TS:=λD σ H=>te σ H D.rt
theorem C0 (m:PE X e te):PS X (.Return (some e) pos) (cP4 te):=by
 refine⟨?_⟩;intro c s σ H D I h;exact wpAny_Return_some (thn (m c s σ H _ I h) λv J ⟨x,H1,j,U,Y⟩=>⟨x,σ,H1,j,U,Y⟩)
def dH5 (c:TT)(t u:TS):TS:=λD σ H=>c σ H λb H1=>if b=true then t D σ H1 else u D σ H1
theorem N0 (R:PT X c tc)(J:PSs X a t)(M:PSs X b u):PS X (.If c a b pos) (dH5 tc t u):=by
 refine⟨?_⟩;intro j s σ H D I h;refine wpAny_If (thn (R j s σ H _ I h) λd U pz=>?_)
 obtain⟨H1,m,Y⟩:=pz;cases d with
 | true=>exact J j U σ H1 D m Y
 | false=>exact M j U σ H1 D m Y
def dT0:TS:=λ_ _ _=>False
theorem aS9:PSs X sts dT0:=⟨λ_ _ _ _ _ _ h=>h.elim⟩
end
abbrev TG:=V->St->Hp->(St->Hp->Prop)->Prop
abbrev TGs:=List V->St->Hp->(St->Hp->Prop)->Prop
structure PG (X:Cx)(target:Expr)(t:TG):Prop where
 mk ::
 run :
  ∀(aA:Ee) (s:Shared) (σ:St) (H:Hp) (v:V) (u:Value) (Q:St->Hp->Prop),Inv X aA σ H s->RelV v u->t v σ H Q ->
   wpAny (model X.prog X.w) X.A (assign target X.env u) (λ_ s'=>∃σ' H',Inv X aA σ' H' s'/\Q σ' H') X.xe s
instance {X:Cx} {target:Expr} {t:TG}:CoeFun (PG X target t) λ_=>
 (∀(aA:Ee) (s:Shared) (σ:St) (H:Hp) (v:V) (u:Value) (Q:St->Hp->Prop),Inv X aA σ H s->RelV v u->t v σ H Q ->
  wpAny (model X.prog X.w) X.A (assign target X.env u) (λ_ s'=>∃σ' H',Inv X aA σ' H' s'/\Q σ' H') X.xe s):=⟨PG.run⟩
structure PGs (X:Cx)(ts:AN)(t:TGs):Prop where
 mk ::
 run :
  ∀(aA:Ee) (s:Shared) (σ:St) (H:Hp) (vs:List V) (us:AH) (Q:St->Hp->Prop),Inv X aA σ H s->Vals vs us->t vs σ H Q ->
   wpAny (model X.prog X.w) X.A (assignInOrder ((assignEach ts X.env).map (·.2)) us) (λ_ s'=>∃σ' H',Inv X aA σ' H' s'/\Q σ' H') X.xe s
instance {X:Cx} {ts:AN} {t:TGs}:CoeFun (PGs X ts t) λ_=>
 (∀(aA:Ee) (s:Shared) (σ:St) (H:Hp) (vs:List V) (us:AH) (Q:St->Hp->Prop),Inv X aA σ H s->Vals vs us->t vs σ H Q ->
  wpAny (model X.prog X.w) X.A (assignInOrder ((assignEach ts X.env).map (·.2)) us) (λ_ s'=>∃σ' H',Inv X aA σ' H' s'/\Q σ' H') X.xe s):=⟨PGs.run⟩
abbrev eA0:=V->V->V->Hp->(Hp->Prop)->Prop
def eC8 (X:Cx)(t:eA0):Prop:=
 ∀(aA:Ee) (s:Shared) (σ:St) (H:Hp) (o i v:V) (ov iv u:Value) (Q:Hp->Prop),Inv X aA σ H s->RelV o ov->RelV i iv->RelV v u->t o i v H Q ->
  wpAny (model X.prog X.w) X.A (setItem ov iv u) (λ_ s'=>∃H',Inv X aA σ H' s'/\Q H') X.xe s
abbrev TIp:=V->V->Hp->VK->Prop
def PIp (X:Cx)(op:Operator)(t:TIp):Prop:=
 ∀(aA:Ee) (s:Shared) (σ:St) (H:Hp) (x y:V) (v u:Value) (Q:VK),Inv X aA σ H s->RelV x v->RelV y u->t x y H Q ->
  wpAny (model X.prog X.w) X.A (inplaceOp op v u) (EP X aA σ Q) X.xe s
section
def F4 (i:Nat):TG:=λv σ H Q=>Q (σ.set i (some v)) H
theorem E2 (hN:X.N.Nodup)(hi:X.N[i]? = some x)(c:Loc X.env.scope x)(j:X.fn x=true\/X.env.scope.names.lookup x=some .local:=by first | exact .inl rfl | exact .inr rfl | assumption):PG X (.Name x pos) (F4 i):=by
 refine⟨?_⟩;intro m s σ H v u Q I r h;exact wpAny_assign_Name (aZ5 I hN hi c r (λY e=>⟨_,H,e,h⟩) j)
def bN2:TGs:=λvs σ H Q=>vs=[]/\Q σ H
def p4 (t:TG)(u:TGs):TGs:=λvs σ H Q=>∃v r,vs=v::r/\t v σ H λσ' H'=>u r σ' H' Q
theorem T3:PGs X [] bN2:=by
 refine⟨?_⟩;intro j s σ H vs c Q I r h;obtain⟨e,h⟩:=h;subst e;exact assignInOrder_nil ⟨σ,H,I,h⟩
theorem E7 (h1:PG X e t)(Y:PGs X es u)
  (U:(assignEach (e::es) X.env).map (·.2)=assign e X.env::(assignEach es X.env).map (·.2):=by rfl):PGs X (e::es) (p4 t u):=by
 refine⟨?_⟩;intro j s σ H vs D Q I r h;obtain⟨v,F,m,h⟩:=h;subst m;cases r with
 | cons r rr=>
  rw[U];exact assignInOrder_cons (thn (h1 j s σ H _ _ _ I r h) λ_ M ⟨R,H1,c,J⟩=>(Y j M R H1 _ _ Q c rr J))
def cC4 (K:Frag)(n:Nat)(t:TGs):TG:=λv σ H Q=>∃a xs,v=.ref a/\SqT K H a xs/\xs.length=n/\t xs σ H Q
theorem i9 {k:Nat}(M:X.calm=true)(h:PGs X es t)
  (D:(assignEach es X.env).length=n:=by rfl) (j:(assignEach es X.env).findIdx? (·.1)=none:=by rfl):PG X (.Tuple es k pos) (cC4 X.K n t):=by
 refine⟨?_⟩;intro U s σ H v u Q I r c;obtain⟨a,xs,J,F,R,c⟩:=c;subst J;cases r;obtain⟨its,m,B,hz⟩:=I.tuple F;refine assign_Tuple_tuple (I.ok.hd M) B (by simp[D,<- R,m.length]) j λh' P=>?_
 have Y:=I.kept (t':=s.toks) λb o e=>P b o (Ab9 (Ab3 e)) e
 exact h U _ σ H xs _ Q Y (by simpa using m) c
def dQ4 (to ti:TE)(t:eA0):TG:=λv σ H Q=>to σ H λo H1=>ti σ H1 λi H2=>t o i v H2 λH3=>Q σ H3
theorem cB4 (ho:PE X o to)(hi:PE X i ti)(J:eC8 X t)
  (ha:∀v,assign (.Subscript o i pos) X.env v=(do
   let ov <- holding [v] (eval o X.env)
   let iv <- holding [v,ov] (eval i X.env)
   standAt pos
   holding [v,ov,iv] (setItem ov iv v)
   release [v,ov,iv] []):=by intro _;rfl):PG X (.Subscript o i pos) (dQ4 to ti t):=by
 refine⟨?_⟩;intro e s σ H v u Q I r h;refine Aa (Cg (thn (ho e s σ H _ I h) λov P pz=>?_))
 obtain⟨x,H1,m,F,M⟩:=pz;refine Aa (Cg (thn (hi e P σ H1 _ m M) λiv s2 pz=>?_))
 obtain⟨y,j,Y,B,R⟩:=pz;exact Aa (wpAny_standAt (Aa (Cg (thn (J e s2 σ j x y v ov iv u _ Y F B r R) λ_ s3 ⟨c,U,D⟩=>(wpAny_release ⟨σ,c,U,D⟩)))))
def aT8 (te:TE)(g:TG):TS:=λD σ H=>te σ H λx H1=>g x σ H1 D.nx
theorem aS2 (m:PE X e te)(Y:PG X tg g)(U:swapsWithSole [tg] e pos.line X.env=pure false:=by rfl)(J:swappedStores [tg] e X.env=pure none:=by rfl)
  (h1:(assignEach [tg] X.env).map (·.2)=[assign tg X.env]:=by rfl):PS X (.Assign [tg] e pos) (aT8 te g):=by
 refine⟨?_⟩;intro j s σ H D I h;refine wpAny_Assign_stores (thn (m j s σ H _ I h) λv Q pz=>?_) U J
 obtain⟨x,H1,c,R,M⟩:=pz;rw[h1];exact thn (Y j Q σ H1 x v _ c R M) λ_ F q=>q
theorem aC3 (hN:X.N.Nodup)(hi:X.N[i]? = some x)(M:Loc X.env.scope x)(Y:PE X e te)(J:swapsWith e (some (.Name x pos')) pos.line X.env=pure false:=by rfl)(U:X.fn x=true\/X.env.scope.names.lookup x=some .local:=by first | exact .inl rfl | exact .inr rfl | assumption) :
  PS X (.Assign [.Name x pos'] e pos) (aT8 te (F4 i)):=by
 refine⟨?_⟩;intro m s σ H D I h;exact wpAny_Assign_Name (thn (Y m s σ H _ I h) λv F ⟨y,H1,j,Q,R⟩=>(aZ5 j hN hi M Q (λB c=>⟨_,H1,c,R⟩) U)) J
def eC7 (i:Nat)(te:TE)(ti:TIp):TS:=λD σ H=>∃x,σ[i]? = some (some x)/\te σ H λy H1=>ti x y H1 λz H2=>D.nx (σ.set i (some z)) H2
theorem dS1 (hN:X.N.Nodup)(hi:X.N[i]? = some x)(U:Loc X.env.scope x)(he:PE X e te)(ho:PIp X op ti)(hf:X.fn x=true\/X.env.scope.names.lookup x=some .local:=by first | exact .inl rfl | exact .inr rfl | assumption) :
  PS X (.AugAssign (.Name x pos') op e pos) (eC7 i te ti):=by
 refine⟨?_⟩;intro Y s σ H D I h;obtain⟨v,P,h⟩:=h;obtain⟨m,hn,hl⟩:=I.loc;have J:Vis X.env.scope x:=by rcases U with k | k;exact .inl k;exact .inr (.inl k)
 obtain⟨u,r,l⟩:=hl i x v hi P J;refine wpAny_AugAssign_Name ?_;have M:wpAny (model X.prog X.w) X.A (eval e X.env) (λw s₂=>wpAny (model X.prog X.w) X.A (inplaceOp op u w) (λr s₃=>wpAny (model X.prog X.w) X.A (storeName X.env x r) (λ_=>SP X Y D .next) X.xe s₃) X.xe s₂) X.xe s:=by
  refine thn (he Y s σ H _ I h) λw s1 pz=>?_
  obtain⟨y,H1,Q,r1,q1⟩:=pz;exact thn (ho Y s1 σ H1 v y u w _ Q r r1 q1) λz s2 ⟨zv,R,F,r2,q2⟩=>(aZ5 F hN hi U r2 (λs3 B=>⟨_,R,B,q2⟩) hf)
 rcases l with⟨hk,hm⟩ | ⟨hk,c,hc,j⟩
 .exact wpAny_loadName_local I.ok.kind hk hn hm M
 .rcases hk with hk | hk
  .exact wpAny_loadName_cell I.ok.kind hk hc j M
  .rcases U with k | k
   .have:X.env.scope.names.lookup x=some .free:=hk
    rw[k]at this;cases this
   .have:X.env.scope.names.lookup x=some .free:=hk
    rw[k]at this;cases this
def ipI (f:Int->Int->Int):TIp:=λx y H Q=>∃i j,x=.int i/\y=.int j/\Q (.int (f i j)) H
theorem dP9:PIp X .Add (ipI λi j=>i+j):=by
 intro U s σ H x y v u Q I m Y h;obtain⟨i,j,e,c,q⟩:=h;subst e;subst c;obtain⟨t,rfl⟩:=m;obtain⟨J,rfl⟩:=Y;exact iadd_int ⟨.int _,H,I.tok _,⟨_,rfl⟩,q⟩
end
section
def cD1 (c:TT)(tb:TS):TS:=λD σ H=>∃W:Nat->St->Hp->Prop,(∃m,W m σ H)/\∀m σ H,W m σ H ->
 c σ H λb H1=>if b=true then ∃N:St->Hp->Prop,(∀σ' H',N σ' H'->∃m',m'<m/\W m' σ' H')/\tb {D with nx:=N,ct:=N,bk:=D.nx} σ H1 else D.nx σ H1
theorem Y7 (hp:PassesOwn (model X.prog X.w) X.A X.env X.xe)(hc:PT X c tc)(hb:PSs X body tb):PS X (.While c body [] pos) (cD1 tc tb):=by
 refine⟨?_⟩;intro M s σ H D I h;obtain⟨W,⟨m0,w0⟩,turn⟩:=h;refine wpAny_While (codeAny_whileLoop (λn s'=>∃σ' B,Inv X M σ' B s'/\W n σ' B) ?_ m0 ⟨σ,H,I,w0⟩)
 rintro n s1 ⟨U,H1,I1,w1⟩;refine wpAny_passesOwn hp (thn (hc M s1 U H1 _ I1 (turn n U H1 w1)) λb s2 pz=>?_)
 obtain⟨P,I2,m⟩:=pz;cases b with
 | true=>
  obtain⟨N,hN,m⟩:=m;refine wpAny_passesOwn hp (thn (hb M s2 U P _ I2 m) λf s3 Y=>?_)
  cases f with
  | next=>
   obtain⟨j,e,J,F⟩:=Y;obtain⟨Q,R,w3⟩:=hN j e F;exact⟨Q,R,j,e,J,w3⟩
  | cont=>
   obtain⟨j,e,J,F⟩:=Y;obtain⟨Q,R,w3⟩:=hN j e F;exact⟨Q,R,j,e,J,w3⟩
  | brk=>exact Y
  | ret v=>exact Y
 | false=>
  exact wpAny_execs_nil ⟨U,P,I2,m⟩
end
structure It where
 go:Nat->Hp->Prop
 yld:Nat->Hp->V->Hp->Prop
 stop:Nat->Hp->Prop
def aY9 (X:Cx)(aA:Ee)(H:Hp)(b:Addr):Prop:=
 H b=none/\b≠X.env.locals/\b∉X.fs/\(b∈X.ex\/X.s₀.heap.objs.size<=b)/\(∀x c,X.env.cells.lookup x=some c->c≠b)/\∀p∈X.pn++aA,p.1≠b
theorem Inv.fpOk {σ:St}{b:Addr}(I:Inv X aA σ H s)(j:s.heap.objs.size<=b)(m:H' b=none):aY9 X aA H' b:=by
 refine⟨m,Nat.ne_of_gt (Ab8 I.lt j),I.nofs j,.inr (Aq I.sz j),λx c e z=>?_,λp hp z=>(absurd (Ab8 (Ab3 (I.pin p hp).1) (by rw[z];exact j)) (Ad9 _))⟩
 .obtain⟨v,q⟩:=I.cell x c e;exact absurd (Ab8 q.lt (by rw[z];exact j)) (Ad9 _)
structure cB9 (P:Program)(w:World)(K:Frag)(tg:Expr)(J:It)(fp:AM)(it:Addr)(tn:Nat->Heap->Prop):Prop where
 mem:it∈fp
 obj:∀i h,tn i h->∀b∈fp,∃o,h.get? b=some o/\∀v,o.data≠.cell v
 keep:∀i h h',tn i h->(∀b∈fp,∀o,h.get? b=some o->h'.get? b=some o)->tn i h'
 item:∀(X:Cx),X.prog=P->X.w=w->X.K=K->X.calm=true->∀(i:Nat) (aA:Ee) (s:Shared) (σ:St) (H:Hp) (E:Ed),Inv X aA σ H s->(∀b∈fp,aY9 X aA H b)->tn i s.heap->J.go i H ->
  wpAny (model P w) X.A (pyNext (.ref it)) (λr s1=>∃u,r=some u /\
   wpAny (model P w) X.A (letOwnedTupleGo tg (.ref it) u) (λ_ s2=>∃x H',Inv X aA σ H' s2/\RelV x u/\J.yld i H x H'/\tn (i+1) s2.heap/\∀b∈fp,H' b=none) E s1) E s
 done:∀(X:Cx),X.prog=P->X.w=w->X.K=K->X.calm=true->∀(i:Nat) (aA:Ee) (s:Shared) (σ:St) (H:Hp) (E:Ed),Inv X aA σ H s->(∀b∈fp,aY9 X aA H b)->tn i s.heap->J.stop i H ->
  wpAny (model P w) X.A (pyNext (.ref it)) (λr s1=>r=none/\Inv X aA σ H s1) E s
 self:∀(A:Around) (i:Nat) (s:Shared) (Q:Ed) (E:Ed),tn i s.heap->Q (.ref it) s->wpAny (model P w) A (pyIter (.ref it)) Q E s
abbrev TI:=St->Hp->(It->Hp->Prop)->Prop
def PIE (X:Cx)(aA:Ee)(σ:St)(tg:Expr)(R:It->Hp->Prop)(itv:Value)(s2:Shared):Prop:=
 ∃(it:Addr) (fp:AM) (tn:Nat->Heap->Prop) (J:It) (H':Hp),itv=.ref it/\Inv X aA σ H' s2/\cB9 X.prog X.w X.K tg J fp it tn/\tn 0 s2.heap/\(∀b∈fp,aY9 X aA H' b)/\R J H'
structure PI (X:Cx)(tg iter:Expr)(wi:TI):Prop where
 mk ::
 run :
  ∀(aA:Ee) (s:Shared) (σ:St) (H:Hp) (R:It->Hp->Prop),Inv X aA σ H s->wi σ H R ->
   wpAny (model X.prog X.w) X.A (eval iter X.env) (λv s1=>wpAny (model X.prog X.w) X.A (pyIter v) (PIE X aA σ tg R) X.xe s1) X.xe s
instance {X:Cx} {tg iter:Expr} {wi:TI}:CoeFun (PI X tg iter wi) λ_=>
 (∀(aA:Ee) (s:Shared) (σ:St) (H:Hp) (R:It->Hp->Prop),Inv X aA σ H s->wi σ H R ->
  wpAny (model X.prog X.w) X.A (eval iter X.env) (λv s1=>wpAny (model X.prog X.w) X.A (pyIter v) (PIE X aA σ tg R) X.xe s1) X.xe s):=⟨PI.run⟩
theorem cU0 (ho:s.heap.get? it=some o)(j:o.cls=.type n)(c:o.data=.fields vs)
  (m:["enumerate", "zip", "dict_itemiterator", "dict_reverseitemiterator", "odict_iterator", "itertools.zip_longest", "itertools.pairwise"].contains n=false) (e:Q () s):wpAny M A (letOwnedTupleGo tg (.ref it) u) Q E s:=by
 cases tg <;> first
  | exact Ae e
  | (cases u <;> first
    | exact Ae e
    | (refine Aa (wpAny_load ho ?_)
       rw[j,c];show wpAny M A (if(["enumerate", "zip", "dict_itemiterator", "dict_reverseitemiterator", "odict_iterator", "itertools.zip_longest", "itertools.pairwise"].contains n&&vs[0]? == some (rawInt _))=true then _ else _) Q E s;rw[Ab (by intro h;rw[m,Bool.false_and]at h;cases h)]
       exact Ae e))
def Itl (K:Frag)(a:Addr):It:=
 ⟨λi H=>∃xs x,SqL K H a xs/\xs[i]? = some x,λi H x H'=>H'=H/\∀xs,SqL K H a xs->xs[i]? = some x,λi H=>∃xs,SqL K H a xs/\xs.length<=i⟩
def Itt (K:Frag)(a:Addr):It:=
 ⟨λi H=>∃xs x,SqT K H a xs/\xs[i]? = some x,λi H x H'=>H'=H/\∀xs,SqT K H a xs->xs[i]? = some x,λi H=>∃xs,SqT K H a xs/\xs.length<=i⟩
def Itr (lo:Int)(n:Nat):It:=⟨λi _=>i<n,λi H x H'=>H'=H/\x=.int (lo+i),λi _=>n<=i⟩
theorem cL8 {K:Frag}(a it:Addr):cB9 P w K tg (Itl K a) [it] it (λi h=>h.IsListIter it a i) where
 mem:=by simp
 obj:=λi h j b m=>by
  have e:b=it:=by simpa using m
  subst e;obtain⟨o,e,c,d⟩:=j;exact⟨o,e,λv z=>by rw[d]at z;cases z⟩
 keep:=λi h h' j k=>j.at λo e=>k it SS o e
 item:=by
  intro X F hw D hc i aA s σ H E I U j B;subst F hw D;obtain⟨xs,x,J,hx⟩:=B;obtain⟨its,rv,p,hz⟩:=I.list J;obtain⟨u,hu,ru⟩:=rv.get hx;obtain⟨M,f1,f2,f3,R,Q⟩:=U it SS
  refine wpAny_pyNext_list_item j p.isList (by simpa using hu) λh' Y sb=>?_
  have I1:=I.turned (t':=s.toks) (λb o m e=>(sb.2 b m).trans e) M f1 f3 R Q
  obtain⟨o,e,c,d⟩:=id Y;exact⟨u,rfl,cU0 e c d DD ⟨x,H,I1,ru,⟨rfl,λys hy=>by rw[I.list_inj hy J];exact hx⟩,Y,λb m=>(U b m).1⟩⟩
 done:=by
  intro X F hw D hc i aA s σ H E I U j B;subst F hw D;obtain⟨xs,J,hx⟩:=B;obtain⟨its,rv,p,hz⟩:=I.list J;obtain⟨M,f1,f2,f3,R,Q⟩:=U it SS
  have hl:=rv.length
  exact wpAny_pyNext_list_end (I.ok.hd hc) j p.isList (by simp;simp_all) λh' eb=>⟨rfl,I.turned (λb o m e=>eb b o m e) M f1 f3 R Q⟩
 self:=λ_ _ _ _ _ j h=>wpAny_pyIter_listiter j h
theorem cD7 {K:Frag}(a it:Addr):cB9 P w K tg (Itt K a) [it] it (λi h=>h.IsTupleIter it a i) where
 mem:=by simp
 obj:=λi h j b m=>by
  have e:b=it:=by simpa using m
  subst e;obtain⟨o,e,c,d⟩:=j;exact⟨o,e,λv z=>by rw[d]at z;cases z⟩
 keep:=λi h h' j k=>j.at λo e=>k it SS o e
 item:=by
  intro X F hw D hc i aA s σ H E I U j B;subst F hw D;obtain⟨xs,x,J,hx⟩:=B;obtain⟨its,rv,p,hz⟩:=I.tuple J;obtain⟨u,hu,ru⟩:=rv.get hx;obtain⟨M,f1,f2,f3,R,Q⟩:=U it SS
  refine wpAny_pyNext_tuple_item j (show s.heap.IsTuple a its.toArray from p) (by simpa using hu) λh' Y sb=>?_
  have I1:=I.turned (t':=s.toks) (λb o m e=>(sb.2 b m).trans e) M f1 f3 R Q
  obtain⟨o,e,c,d⟩:=id Y;exact⟨u,rfl,cU0 e c d DD ⟨x,H,I1,ru,⟨rfl,λys hy=>by rw[I.tuple_inj hy J];exact hx⟩,Y,λb m=>(U b m).1⟩⟩
 done:=by
  intro X F hw D hc i aA s σ H E I U j B;subst F hw D;obtain⟨xs,J,hx⟩:=B;obtain⟨its,rv,p,hz⟩:=I.tuple J;obtain⟨M,f1,f2,f3,R,Q⟩:=U it SS
  have hl:=rv.length
  exact wpAny_pyNext_tuple_end (I.ok.hd hc) j (show s.heap.IsTuple a its.toArray from p) (by simp;simp_all) λh' eb=>⟨rfl,I.turned (λb o m e=>eb b o m e) M f1 f3 R Q⟩
 self:=λ_ _ _ _ _ j h=>wpAny_pyIter_tupleiter j h
theorem cA6 {K:Frag}(it:Addr)(lo:Int)(n:Nat):cB9 P w K tg (Itr lo n) [it] it (λi h=>IsRangeIter h it (lo+(i:Nat)*1) ((n:Int)-(i:Nat)) 1) where
 mem:=by simp
 obj:=λi h j b c=>by
  have e:b=it:=by simpa using c
  subst e;exact⟨_,j,λv z=>by
   have z':=z
   cases z'⟩
 keep:=λi h R j k=>k it SS _ j
 item:=by
  intro X hP hw B Q i F s σ H E I Y j D;subst hP hw B;obtain⟨U,f1,f2,f3,J,M⟩:=Y it SS
  have W:=Walks.range (prog:=X.prog) (w:=X.w) (I.ok.hd Q) it lo 1 n
  refine W.item i s _ _ D j λv R tk hv m kk=>?_
  obtain⟨t,rfl⟩:=hv;have I1:Inv X F σ H {s with heap:=R,toks:=tk}:=I.turned (λb o c e=>kk b o (by simpa using c) e) U f1 f3 J M
  refine⟨_,rfl,cU0 m rfl rfl DD ⟨.int (lo+i),H,I1,⟨t,?_⟩,⟨rfl,rfl⟩,m,λb c=>(Y b c).1⟩⟩
  rw[Int.mul_one]
 done:=by
  intro X hP hw B Q i F s σ H E I Y j D;obtain⟨U,f1,f2,f3,J,M⟩:=Y it SS
  exact wpAny_pyNext_range_end (I.ok.hd Q) j (by have:n<=i:=D;lia) λR eb=>⟨rfl,I.turned (λb o c e=>eb b o c e) U f1 f3 J M⟩
 self:=λ_ _ _ _ _ j h=>wpAny_pyIter_rangeiter j h
section
def dK7 (K:Frag)(tl:TE):TI:=λσ H R=>tl σ H λx H1=>∃a,x=.ref a/\(∃xs,SqL K H1 a xs)/\R (Itl K a) H1
def eE5 (K:Frag)(tl:TE):TI:=λσ H R=>tl σ H λx H1=>∃a,x=.ref a/\(∃xs,SqT K H1 a xs)/\R (Itt K a) H1
theorem O2 (U:PE X l tl):PI X tg l (dK7 X.K tl):=by
 refine⟨?_⟩;intro m s σ H R I h;refine thn (U m s σ H _ I h) λv c pz=>?_
 obtain⟨x,H1,j,Q,M⟩:=pz;obtain⟨a,e,⟨xs,J⟩,q⟩:=M;subst e;cases Q;obtain⟨its,F,p,D⟩:=j.list J;refine wpAny_pyIter_list p.isList ?_;refine⟨c.heap.objs.size,[c.heap.objs.size],_,_,H1,rfl,j.kept λb o e=>Aa6 _ e,cL8 a _,⟨_,Ac3 _ rfl,rfl,rfl⟩,λb Y=>?_,q⟩
 have e:b=c.heap.objs.size:=by simpa using Y
 subst e;exact j.fpOk (Aa7 _) (j.hok.fresh (Aa7 _))
theorem O9 (U:PE X l tl):PI X tg l (eE5 X.K tl):=by
 refine⟨?_⟩;intro m s σ H R I h;refine thn (U m s σ H _ I h) λv c pz=>?_
 obtain⟨x,H1,j,Q,M⟩:=pz;obtain⟨a,e,⟨xs,J⟩,q⟩:=M;subst e;cases Q;obtain⟨its,F,p,D⟩:=j.tuple J;refine wpAny_pyIter_tuple (show c.heap.IsTuple a its.toArray from p) ?_
 refine⟨c.heap.objs.size,[c.heap.objs.size],_,_,H1,rfl,j.kept λb o e=>Aa6 _ e,cD7 a _,⟨_,Ac3 _ rfl,rfl,rfl⟩,λb Y=>?_,q⟩
 have e:b=c.heap.objs.size:=by simpa using Y
 subst e;exact j.fpOk (Aa7 _) (j.hok.fresh (Aa7 _))
theorem bX6 {σ:St}{lo hi:Int}(I:Inv X aA σ H s)(h1 : -(2^62)<=lo)(Y:lo<2^62)(U : -(2^62)<=hi)(J:hi<2^62)
  (q:R (Itr lo (hi-lo).toNat) H):wpAny (model X.prog X.w) X.A (pyIter (.ref s.heap.objs.size)) (PIE X aA σ tg R) E {s with heap:=s.heap.push {cls:=.type "range",data:=.fields #[.int lo t,.int hi u,.int 1 v]},toks:=tk}:=by
 refine wpAny_pyIter_range (IsRange.new ..) (small_one h1 Y U J) ?_;have j:Inv X aA σ H {s with heap:=s.heap.push {cls:=.type "range",data:=.fields #[.int lo t,.int hi u,.int 1 v]},toks:=tk}:=I.kept λb o e=>Aa6 _ e
 refine⟨(s.heap.push {cls:=.type "range",data:=.fields #[.int lo t,.int hi u,.int 1 v]}).objs.size,[(s.heap.push {cls:=.type "range",data:=.fields #[.int lo t,.int hi u,.int 1 v]}).objs.size],_,_,H,rfl,
  j.kept λb o e=>Aa6 _ e,cA6 _ lo (hi-lo).toNat,?_,λb M=>?_,q⟩
 .have c:lo+((0:Nat))*1=lo:=by simp
  have m:(((hi-lo).toNat:Nat))-((0:Nat))=Builtin.Range.rangeSize lo hi 1:=by rw[rangeSize_one];split <;> lia
  rw[c,m];exact Ac3 _ rfl
 .have e:b=(s.heap.push {cls:=.type "range",data:=.fields #[.int lo t,.int hi u,.int 1 v]}).objs.size:=by simpa using M
  subst e;exact j.fpOk (Aa7 _) (j.hok.fresh (Aa7 _))
def dO0 (ta:TA):TI:=λσ H R=>ta σ H λvs H1=>∃j:Int,vs=[.int j] /\ -(2^62)<=j/\j<2^62/\R (Itr 0 j.toNat) H1
def dK9 (ta:TA):TI:=λσ H R=>ta σ H λvs H1=>∃i j:Int,vs=[.int i,.int j]/\(-(2^62)<=i/\i<2^62 /\ -(2^62)<=j/\j<2^62)/\R (Itr i (j-i).toNat) H1
theorem K1 (J:Gl X "range")(M:X.mg "range" = none)(U:PA X [a] ta)(Q:starEach [a] X.env=[(false,eval a X.env)]:=by rfl):PI X tg (.Call (.Name "range" p) [a] [] pos) (dO0 ta):=by
 refine⟨?_⟩;intro Y s σ H R I h;refine Call_ (y4 I J M boot_range (Bo (thn (U pos Y s σ H _ I h) λP B pz=>?_) Q rfl))
 obtain⟨vs,H1,m,F,c⟩:=pz;obtain⟨j,e,c,D,q⟩:=c;subst e;cases F with
 | cons r rr=>
  cases rr
  obtain⟨t,rfl⟩:=r;exact call_range_1 (bX6 m SS SS c D (by simpa using q))
theorem aS6 {p pos:Pos}(M:Gl X "range")(Q:X.mg "range" = none)(J:PA X [a,b] ta)(D:starEach [a,b] X.env=[(false,eval a X.env),(false,eval b X.env)]:=by rfl)(c:starEach [b] X.env=[(false,eval b X.env)]:=by rfl) :
  PI X tg (.Call (.Name "range" p) [a,b] [] pos) (dK9 ta):=by
 refine⟨?_⟩;intro U s σ H R I h;refine Call_ (y4 I M Q boot_range (Bo (thn (J pos U s σ H _ I h) λus s1 pz=>?_) (by rw[D,c]) (by rw[c];rfl)))
 obtain⟨vs,H1,Y,r1,m⟩:=pz;obtain⟨i,j,e,⟨m,F,B,P⟩,q⟩:=m;subst e;cases r1 with
 | cons r rr=>
  cases rr with
  | cons r' rr=>
   cases rr
   obtain⟨t,rfl⟩:=r;obtain⟨t',rfl⟩:=r';exact call_range_2 (bX6 Y m F B P q)
def eD2 (wi:TI)(g:TG)(tb:TS):TS:=λD σ H=>wi σ H λJ H1=>∃W:Nat->Nat->St->Hp->Prop,(∃m,W 0 m σ H1)/\∀i m σ H,W i m σ H ->
 (J.stop i H/\D.nx σ H)\/(J.go i H/\∃N:St->Hp->Prop,(∀σ' H',N σ' H'->∃m',m'<m/\W (i+1) m' σ' H')/\∀x H',J.yld i H x H'->g x σ H' λσ2 H2=>tb {D with nx:=N,ct:=N,bk:=D.nx} σ2 H2)
def aJ9 (fp:AM)(h:Heap):List (Addr×Obj):=fp.filterMap λb=>(h.get? b).map λo=>(b,o)
theorem t9 (j:b∈fp)(e:h.get? b=some o):(b,o)∈aJ9 fp h:=List.mem_filterMap.mpr ⟨b,j,by rw[e];rfl⟩
theorem bH4 (hp:p∈aJ9 fp h):p.1∈fp/\h.get? p.1=some p.2:=by
 obtain⟨b,j,e⟩:=List.mem_filterMap.mp hp;cases q:h.get? b with
 | none=>rw[q]at e;cases e
 | some o=>
  rw[q]at e;have e':=Ab4 e;subst e';exact⟨j,q⟩
theorem Inv.pinned {σ:St}(I:Inv X aA σ H s)(m:∀b∈fp,aY9 X aA H b)(ho:∀b∈fp,∃o,s.heap.get? b=some o/\∀v,o.data≠.cell v):Inv X (aA++aJ9 fp s.heap) σ H s:=
 I.pins_of λp hp=>(Aa0.mp hp).elim (λz=>I.pin p (Ac1 _ z)) λz=>by
  obtain⟨j,e⟩:=bH4 z;obtain⟨c,f1,f2,_⟩:=m p.1 j;obtain⟨o,e',d⟩:=ho p.1 j;rw[e]at e';cases e';exact⟨e,c,f1,f2,d⟩
theorem Inv.unpinned {σ:St}(I:Inv X (aA++pl) σ H s):Inv X aA σ H s:=I.pins_of λp hp=>I.pin p (Ac1 _ (Ak _ hp))
theorem J5 (hp:PassesOwn (model X.prog X.w) X.A X.env X.xe)(hc:X.calm=true)(hi:PI X tg iter wi)(hg:PG X tg g)(U:PSs X body tb)
  (hs:∀x,foldedSetIterable iter X.env x=pure x:=by intro _;rfl):PS X (.For tg iter body [] pos) (eD2 wi g tb):=by
 refine⟨?_⟩;intro B s σ H D I h;refine wpAny_For (thn (hi B s σ H _ I h) λv s1 h1=>thn h1 λitv s2 h2=>?_) hs
 obtain⟨it,fp,tn,J,H2,e,I2,T,st2,f2,W,⟨m0,w0⟩,turn⟩:=h2;subst e;have M:∀{Q:Hp},(∀b∈fp,Q b=none)->∀b∈fp,aY9 X B Q b:=λhn b U=>⟨hn b U,(f2 b U).2⟩
 refine codeAny_forLoop_any (λn s'=>∃i σ' Q,Inv X B σ' Q s'/\tn i s'.heap/\(∀b∈fp,Q b=none)/\W i n σ' Q) ?_ m0 ⟨0,σ,H2,I2,st2,λb U=>(f2 b U).1,w0⟩
 rintro n s3 ⟨i,σ3,H3,I3,st3,fr3,w3⟩;rcases turn i n σ3 H3 w3 with⟨stop,qn⟩ | ⟨go,N,hN,step⟩
 .refine wpAny_passesOwn hp (thn (T.done X rfl rfl rfl hc i B s3 σ3 H3 X.xe I3 (M fr3) st3 stop) λr s4 ⟨hr,I4⟩=>?_)
  subst hr;exact wpAny_execs_nil ⟨σ3,H3,I4,qn⟩
 .refine wpAny_passesOwn hp (thn (T.item X rfl rfl rfl hc i B s3 σ3 H3 X.xe I3 (M fr3) st3 go) λr s4 ⟨u,hr,h4⟩=>?_)
  subst hr;refine wpAny_passesOwn hp (thn h4 λ_ s5 pz=>?_)
  obtain⟨x,H5,I5,r5,y5,P,fr5⟩:=pz;have I5':=I5.pinned (M fr5) (T.obj _ _ P);refine wpAny_passesOwn hp (thn (hg _ s5 σ3 H5 x u _ I5' r5 (step x H5 y5)) λ_ s6 pz=>?_)
  obtain⟨σ6,H6,I6,q6⟩:=pz;refine wpAny_passesOwn hp (thn (U _ s6 σ6 H6 _ I6 q6) λf s7 F=>?_)
  have Y:∀{R:St} {j:Hp},Inv X (B++aJ9 fp s5.heap) R j s7->N R j->∃m,m<n/\∃i σ' Q,Inv X B σ' Q s7/\tn i s7.heap/\(∀b∈fp,Q b=none)/\W i m σ' Q:=λ{R j} c n7=>by
   obtain⟨m',hm,w7⟩:=hN R j n7;refine⟨m',hm,i+1,R,j,c.unpinned,T.keep _ _ _ P λb U o e=>(c.pin (b,o) (Ac1 _ (Ac1 _ (t9 U e)))).1,λb U=>?_,w7⟩
   obtain⟨o,e,d⟩:=T.obj _ _ P b U;exact(c.pin (b,o) (Ac1 _ (Ac1 _ (t9 U e)))).2.1
  cases f with
  | next=>obtain⟨R,j,c,n7⟩:=F;exact Y c n7
  | cont=>obtain⟨R,j,c,n7⟩:=F;exact Y c n7
  | brk=>obtain⟨R,j,c,F⟩:=F;exact⟨R,j,c.unpinned,F⟩
  | ret v=>obtain⟨x7,R,j,c,r7,F⟩:=F;exact⟨x7,R,j,c.unpinned,r7,F⟩
end
abbrev R2:=V->V->Hp->VK->Prop
def OpR (X:Cx)(f:Value->Value->Sem Value)(r:R2):Prop:=
 ∀(aA:Ee) (s:Shared) (σ:St) (H:Hp) (x y:V) (v u:Value) (Q:VK),Inv X aA σ H s->RelV x v->RelV y u->r x y H Q ->
  wpAny (model X.prog X.w) X.A (f v u) (EP X aA σ Q) X.xe s
def UnR (X:Cx)(f:Value->Sem Value)(r:V->Hp->VK->Prop):Prop:=
 ∀(aA:Ee) (s:Shared) (σ:St) (H:Hp) (x:V) (v:Value) (Q:VK),Inv X aA σ H s->RelV x v->r x H Q ->
  wpAny (model X.prog X.w) X.A (f v) (EP X aA σ Q) X.xe s
def Q4 (X:Cx)(f:Value)(r:List V->Hp->VK->Prop):Prop:=
 ∀(aA:Ee) (s:Shared) (σ:St) (H:Hp) (xs:List V) (us:AH) (Q:VK),Inv X aA σ H s->Vals xs us->r xs H Q ->
  wpAny (model X.prog X.w) X.A (call f us) (EP X aA σ Q) X.xe s
def tOp (r:R2)(ta tb:TE):TE:=λσ H Q=>ta σ H λx H1=>tb σ H1 λy H2=>r x y H2 Q
def tUn (r:V->Hp->VK->Prop)(ta:TE):TE:=λσ H Q=>ta σ H λx H1=>r x H1 Q
def rI (C:Int->Int->Prop)(g:Int->Int->V):R2:=λx y H Q=>∃i j,x=.int i/\y=.int j/\C i j/\Q (g i j) H
def rI0 (g:Int->Int->V):R2:=λx y H Q=>∃i j,x=.int i/\y=.int j/\Q (g i j) H
def rU (g:Int->V):V->Hp->VK->Prop:=λx H Q=>∃i,x=.int i/\Q (g i) H
section
theorem dV4 (c:PE X a ta)(m:PE X b tb){σ:St}{R:V->V->Hp->Prop}(I:Inv X aA σ H s)
  (h:ta σ H λx H1=>tb σ H1 λy H2=>R x y H2) {f:Value->Value->Sem Value}
  (Y:∀v u s2 x y H2,Inv X aA σ H2 s2->RelV x v->RelV y u->R x y H2->wpAny (model X.prog X.w) X.A (f v u) Q X.xe s2) :
  wpAny (model X.prog X.w) X.A (eval a X.env) (λv s₁=>wpAny (model X.prog X.w) X.A (eval b X.env) (λu s₂=>wpAny (model X.prog X.w) X.A (f v u) Q X.xe s₂) X.xe s₁) X.xe s:=by
 refine thn (c aA s σ H _ I h) λv F pz=>?_
 obtain⟨x,H1,e,M,U⟩:=pz;exact thn (m aA F σ H1 _ e U) λu s2 ⟨y,H2,j,D,J⟩=>(Y v u s2 x y H2 j M D J)
theorem B7 (ho:OpR X (binaryOp op) r)(m:PE X a ta)(Y:PE X b tb):PE X (.BinOp a op b pos) (tOp r ta tb):=by
 refine⟨?_⟩;intro c s σ H Q I h;exact wpAny_BinOp (dV4 m Y I h λv u M x y e j U J q=>ho c M σ e x y v u Q j U J q)
theorem aU8 (ho:UnR X (unaryOp op) r)(c:PE X a ta):PE X (.UnaryOp op a pos) (tUn r ta):=by
 refine⟨?_⟩;intro e s σ H Q I h;exact UnaryOp_ (thn (c e s σ H _ I h) λv U ⟨x,H1,j,Y,m⟩=>ho e U σ H1 x v Q j Y m)
theorem opI {g:Int->Int->Int}
  (e:∀(i j:Int) (t u:Tok) (s:Shared) (Q:Ed) (E:Ed),C i j->Q (.int (g i j) s.toks) {s with toks:=s.toks+1}->wpAny (model X.prog X.w) X.A (f (.int i t) (.int j u)) Q E s) :
  OpR X f (rI C λi j=>.int (g i j)):=by
 intro J s σ H x y v u Q I m Y h;obtain⟨i,j,rfl,rfl,c,q⟩:=h;obtain⟨t,rfl⟩:=m;obtain⟨U,rfl⟩:=Y;exact e i j t U s _ _ c ⟨.int (g i j),H,I.tok _,⟨_,rfl⟩,q⟩
theorem dX4 {g:Int->Int->Int}
  (e:∀(i j:Int) (t u:Tok) (s:Shared) (Q:Ed) (E:Ed),Q (.int (g i j) s.toks) {s with toks:=s.toks+1}->wpAny (model X.prog X.w) X.A (f (.int i t) (.int j u)) Q E s) :
  OpR X f (rI0 λi j=>.int (g i j)):=by
 intro U s σ H x y v u Q I c m h;obtain⟨i,j,rfl,rfl,q⟩:=h;obtain⟨t,rfl⟩:=c;obtain⟨Y,rfl⟩:=m;exact e i j t Y s _ _ ⟨.int (g i j),H,I.tok _,⟨_,rfl⟩,q⟩
theorem dF7 {g:Int->Int->Bool}
  (e:∀(i j:Int) (t u:Tok) (s:Shared) (Q:Ed) (E:Ed),Q (.bool (g i j)) s->wpAny (model X.prog X.w) X.A (f (.int i t) (.int j u)) Q E s) :
  OpR X f (rI0 λi j=>.bl (g i j)):=by
 intro U s σ H x y v u Q I c m h;obtain⟨i,j,rfl,rfl,q⟩:=h;obtain⟨t,rfl⟩:=c;obtain⟨Y,rfl⟩:=m;exact e i j t Y s _ _ ⟨.bl (g i j),H,I,rfl,q⟩
def eG4 (i j:Int):Prop:=0<j/\j<1073741824
theorem H9:OpR X (binaryOp .Add) (rI0 λi j=>.int (i+j)):=dX4 λ_ _ _ _ _ _ _ q=>add_int q
theorem Q2:OpR X (binaryOp .Sub) (rI0 λi j=>.int (i-j)):=dX4 λ_ _ _ _ _ _ _ q=>sub_int q
theorem aF8:OpR X (binaryOp .FloorDiv) (rI eG4 λi j=>.int (i / j)):=opI λi j _ _ _ _ _ e q=>by
 have h1:=e.1
 have c:=e.2
 exact floordiv_int LL (by rw[Int.fdiv_eq_ediv_of_nonneg i LL];exact q) (.inl (PyProof.noPylong_small OO))
theorem Z7:OpR X (binaryOp .Mod) (rI (λ_ j=>0<j) λi j=>.int (i % j)):=opI λi j _ _ _ _ _ e q=>by
 have h1:=e
 exact mod_int' LL (by rw[Int.fmod_eq_emod_of_nonneg i LL];exact q)
theorem unI {g:Int->Int}
  (e:∀(i:Int) (t:Tok) (s:Shared) (Q:Ed) (E:Ed),Q (.int (g i) s.toks) {s with toks:=s.toks+1}->wpAny (model X.prog X.w) X.A (f (.int i t)) Q E s) :
  UnR X f (rU λi=>.int (g i)):=by
 intro c s σ H x v Q I j h;obtain⟨i,rfl,q⟩:=h;obtain⟨t,rfl⟩:=j;exact e i t s _ _ ⟨.int (g i),H,I.tok _,⟨_,rfl⟩,q⟩
theorem aE0:UnR X (unaryOp .USub) (rU λi=>.int (-i)):=unI λ_ _ _ _ _ q=>neg_int q
end
def eC0:V->V->Bool
 | .non,.non=>true | .non,.int _=>true | .int _,.non=>true | .non,.bl _=>true | .bl _,.non=>true | .non,.str _=>true | .str _,.non=>true
 | .int _,.int _=>true | .bl _,.bl _=>true | .str _,.str _=>true | .byt _,.byt _=>true
 | .int _,.str _=>true | .str _,.int _=>true | .bl _,.str _=>true | .str _,.bl _=>true
 | _,_=>false
def rEq:R2:=λx y H Q=>eC0 x y=true/\Q (.bl (decide (x=y))) H
def rNe:R2:=λx y H Q=>eC0 x y=true/\Q (.bl (!decide (x=y))) H
theorem cK7:decide (V.int i=V.int j)=(i==j):=by
 rw[By]
 simp
theorem dA4:decide (V.bl i=V.bl j)=(i==j):=by
 rw[By]
 simp
theorem cJ3:decide (V.str i=V.str j)=(i==j):=by
 rw[By]
 simp
theorem cH7:decide (V.byt i=V.byt j)=(i.toList==j.toList):=by
 rw[By];cases i;cases j
 simp
section
theorem F9 {σ:St}(I:Inv X aA σ H s)(q:Q (.bl k) H)(e:k=k'):EP X aA σ Q (.bool k') s:=by
 subst e;exact⟨.bl k,H,I,rfl,q⟩
theorem aZ6:OpR X (compareOp .Eq) rEq:=by
 intro U s σ H x y v u Q I Y e h;obtain⟨m,q⟩:=h;cases x with
 | non=>
  cases Y
  cases y with
  | non=>cases e;exact PySem.EqNone.eq_none_none (F9 I q SS)
  | bl j=>cases e;exact PySem.EqNone.eq_none_bool (F9 I q SS)
  | int j=>obtain⟨c,rfl⟩:=e;exact PySem.EqNone.eq_none_int (F9 I q SS)
  | str j=>obtain⟨c,rfl⟩:=e;exact PySem.EqNone.eq_none_str (F9 I q SS)
  | _=>exact absurd (show false=true from m) Ao
 | bl i=>
  cases Y
  cases y with
  | non=>cases e;exact PySem.EqNone.eq_bool_none (F9 I q SS)
  | bl j=>cases e;exact eq_bool (F9 I q dA4)
  | str j=>obtain⟨c,rfl⟩:=e;exact PySem.EqMixed.eq_bool_str (F9 I q SS)
  | _=>exact absurd (show false=true from m) Ao
 | int i=>
  obtain⟨t,rfl⟩:=Y;cases y with
  | non=>cases e;exact PySem.EqNone.eq_int_none (F9 I q SS)
  | int j=>obtain⟨c,rfl⟩:=e;exact eq_int (F9 I q cK7)
  | str j=>obtain⟨c,rfl⟩:=e;exact PySem.EqMixed.eq_int_str (F9 I q SS)
  | _=>exact absurd (show false=true from m) Ao
 | str i=>
  obtain⟨t,rfl⟩:=Y;cases y with
  | non=>cases e;exact PySem.EqNone.eq_str_none (F9 I q SS)
  | bl j=>cases e;exact PySem.EqMixed.eq_str_bool (F9 I q SS)
  | int j=>obtain⟨c,rfl⟩:=e;exact PySem.EqMixed.eq_str_int (F9 I q SS)
  | str j=>obtain⟨c,rfl⟩:=e;exact eq_str (F9 I q cJ3)
  | _=>exact absurd (show false=true from m) Ao
 | byt i=>
  obtain⟨t,rfl⟩:=Y;cases y with
  | byt j=>obtain⟨c,rfl⟩:=e;exact PySem.W.eq_bytes (F9 I q cH7)
  | _=>exact absurd (show false=true from m) Ao
 | _=>cases y <;> exact absurd (show false=true from m) Ao
theorem eE6:OpR X (compareOp .NotEq) rNe:=by
 intro U s σ H x y v u Q I Y e h;obtain⟨m,q⟩:=h;cases x with
 | non=>
  cases Y
  cases y with
  | non=>cases e;exact PySem.EqNone.ne_none_none (F9 I q SS)
  | bl j=>cases e;exact PySem.EqNone.ne_none_bool (F9 I q SS)
  | int j=>obtain⟨c,rfl⟩:=e;exact PySem.EqNone.ne_none_int (F9 I q SS)
  | str j=>obtain⟨c,rfl⟩:=e;exact PySem.EqNone.ne_none_str (F9 I q SS)
  | _=>exact absurd (show false=true from m) Ao
 | bl i=>
  cases Y
  cases y with
  | non=>cases e;exact PySem.EqNone.ne_bool_none (F9 I q SS)
  | bl j=>cases e;exact ne_bool (F9 I q (congrArg not dA4))
  | str j=>obtain⟨c,rfl⟩:=e;exact PySem.EqMixed.ne_bool_str (F9 I q SS)
  | _=>exact absurd (show false=true from m) Ao
 | int i=>
  obtain⟨t,rfl⟩:=Y;cases y with
  | non=>cases e;exact PySem.EqNone.ne_int_none (F9 I q SS)
  | int j=>obtain⟨c,rfl⟩:=e;exact ne_int (F9 I q (congrArg not cK7))
  | str j=>obtain⟨c,rfl⟩:=e;exact PySem.EqMixed.ne_int_str (F9 I q SS)
  | _=>exact absurd (show false=true from m) Ao
 | str i=>
  obtain⟨t,rfl⟩:=Y;cases y with
  | non=>cases e;exact PySem.EqNone.ne_str_none (F9 I q SS)
  | bl j=>cases e;exact PySem.EqMixed.ne_str_bool (F9 I q SS)
  | int j=>obtain⟨c,rfl⟩:=e;exact PySem.EqMixed.ne_str_int (F9 I q SS)
  | str j=>obtain⟨c,rfl⟩:=e;exact ne_str (F9 I q (congrArg not cJ3))
  | _=>exact absurd (show false=true from m) Ao
 | byt i=>
  obtain⟨t,rfl⟩:=Y;cases y with
  | byt j=>obtain⟨c,rfl⟩:=e;exact PySem.W.ne_bytes (F9 I q (congrArg not cH7))
  | _=>exact absurd (show false=true from m) Ao
 | _=>cases y <;> exact absurd (show false=true from m) Ao
theorem aU3:OpR X (compareOp .Lt) (rI0 λi j=>.bl (decide (i<j))):=dF7 λ_ _ _ _ _ _ _ q=>lt_int q
theorem dZ2:OpR X (compareOp .LtE) (rI0 λi j=>.bl (decide (i<=j))):=dF7 λ_ _ _ _ _ _ _ q=>le_int q
theorem aI9:OpR X (compareOp .Gt) (rI0 λi j=>.bl (decide (j<i))):=dF7 λ_ _ _ _ _ _ _ q=>gt_int q
theorem eA2:OpR X (compareOp .GtE) (rI0 λi j=>.bl (decide (j<=i))):=dF7 λ_ _ _ _ _ _ _ q=>ge_int q
theorem E9 (b:Expr)(h:op≠.In:=by decide)(c:op≠.NotIn:=by decide):behindInMarks op b=false:=by
 have e:(op==CmpOp.In)=false:=by cases op <;> first | rfl | exact absurd rfl h
 have j:(op==CmpOp.NotIn)=false:=by cases op <;> first | rfl | exact absurd rfl c
 cases b <;> simp[behindInMarks,e,j]
theorem X7 (ho:OpR X (compareOp op) r)(m:PE X a ta)(Y:PE X b tb)(U:behindInMarks op b=false):PE X (.Compare a [op] [b] pos) (tOp r ta tb):=by
 refine⟨?_⟩;intro c s σ H Q I h;exact wpAny_Compare1 (dV4 m Y I h λv u R x y e j J M q=>ho c R σ e x y v u Q j J M q) U
def dM8 (t:TE):TT:=λσ H Q=>t σ H λx H'=>∃k,x=.bl k/\Q k H'
theorem C3 (ho:OpR X (compareOp op) r)(R:PE X a ta)(D:PE X b tb)(F:behindInMarks op b=false):PT X (.Compare a [op] [b] pos) (dM8 (tOp r ta tb)):=by
 refine⟨?_⟩;intro j s σ H Q I h;refine wpAny_isTrue_Compare1 (thn (R j s σ H _ I h) λv s1 ⟨x,H1,U,r1,B⟩=>thn (D j s1 σ H1 _ U B) λu s2 ⟨y,m,J,r2,P⟩=>
  thn (ho j s2 σ m x y v u _ J r1 r2 P) λc s3 ⟨z,Y,M,r3,k,e,q3⟩=>?_) F
 subst e;cases r3;exact wpAny_truthy_bool ⟨Y,M,q3⟩
def cT8 (r r':R2)(ta tb tc:TE):TE:=λσ H Q=>ta σ H λx H1=>tb σ H1 λy H2=>r x y H2 λz H3=>∃k,z=.bl k /\
 (if k=true then tc σ H3 λw' H4=>r' y w' H4 Q else Q (.bl false) H3)
theorem cY3 (ho:OpR X (compareOp op) r)(m:OpR X (compareOp op') r')(ha:PE X a ta)(hb:PE X b tb)(hc:PE X c tc)
  (hm:lastMarks [op,op'] [b,c]=false:=by with_unfolding_all rfl):PE X (.Compare a [op,op'] [b,c] pos) (cT8 r r' ta tb tc):=by
 refine⟨?_⟩;intro j s σ H Q I h;refine Compare_chain (thn (ha j s σ H _ I h) λv s1 ⟨x,H1,F,r1,q1⟩=>chain_link (thn (hb j s1 σ H1 _ F q1) λu s2 ⟨y,R,B,M,q2⟩=>
  thn (ho j s2 σ R x y v u _ B r1 M q2) λd s3 ⟨z,Y,U,r3,k,e,J⟩=>?_)) hm
 subst e;cases r3;refine wpAny_truthy_bool ?_;cases k with
 | false=>exact ite_ff ⟨.bl false,Y,U,rfl,J⟩
 | true=>exact ite_tt (chain_last (thn (hc j s3 σ Y _ U J) λw' s4 ⟨z',D,P,r4,q4⟩=>m j s4 σ D y z' u w' Q P M r4 q4))
theorem aT1:(sizeLine:Nat)<2^63:=by decide
theorem U4 (r:Vals [x] us):∃u,us=[u]/\RelV x u:=by
 cases r with
 | cons e j=>cases j;exact⟨_,rfl,e⟩
theorem bG5:Q4 X (.type "int") (λxs H Q=>(∃i,xs=[.int i]/\Q (.int i) H)\/∃k,xs=[.bl k]/\Q (.int (if k then 1 else 0)) H):=by
 intro j s σ H xs c Q I r h;rcases h with⟨i,rfl,q⟩ | ⟨k,rfl,q⟩
 .obtain⟨u,rfl,t,rfl⟩:=U4 r;exact call_int_int ⟨.int i,H,I,⟨_,rfl⟩,q⟩
 .obtain⟨u,rfl,e⟩:=U4 r;cases e;exact call_int_bool ⟨.int (if k then 1 else 0),H,I.tok _,⟨_,rfl⟩,q⟩
end
structure Cls (K:Frag)(C:Addr):Prop where
 pg:PySem.W.plainGet K C Str.empty=true
 hd:PySem.W.hasDictIn K C=true
 po:PySem.W.plainOver K C=true
 sa:PySem.W.findIn K (.ref C) "__setattr__" = some (some (.builtin "object.__setattr__"))
structure Room (k:Nat)(A:Around):Prop where
 hd:A.handled=none
 dp:A.depth+3*k+5<recursionLimit
 un:A.units+16*k+200<cLine
theorem Room.mono (r:Room k A)(h:j<=k):Room j A:=⟨r.hd,by have:=r.dp;lia,by have:=r.un;lia⟩
theorem Room.deeper (r:Room (k+1) A)(env:Env):Room k (A.deeper env):=
 ⟨r.hd,by have:=r.dp;show A.depth+1+3*k+5<_;lia,by have:=r.un;show A.units+3+16*k+200<_;lia⟩
theorem Room.depth (r:Room k A):A.depth<recursionLimit:=by have:=r.dp;lia
def R3:TA:=λ_ H Q=>Q [] H
def E8 (ta:TE)(tr:TA):TA:=λσ H Q=>ta σ H λx H1=>tr σ H1 λxs H2=>Q (x::xs) H2
section
theorem A4:PA X [] R3:=⟨λ_ _ _ _ H Q I h=>Calls.spliced_nil ⟨[],H,I,.nil,h⟩⟩
theorem dG9 (J:PE X e te)(M:PA X es t)(R:starEach (e::es) X.env=(false,eval e X.env)::starEach es X.env:=by rfl):PA X (e::es) (E8 te t):=by
 refine⟨?_⟩;intro j c s σ H Q I h;rw[R];exact Calls.spliced_cons (thn (J c s σ H _ I h) λu s1 ⟨x,H1,Y,B,D⟩=>(thn (M j c s1 σ H1 _ Y D) λus s2 ⟨xs,m,U,P,F⟩=>⟨x::xs,m,U,.cons B P,F⟩))
def bQ4 (t:TA):TE:=λσ H Q=>t σ H λxs H1=>xs.length<=sizeLine/\∀p,H1 p=none->Q (.ref p) (upd H1 p (.tup xs))
def dR1 (t:TA):TE:=λσ H Q=>t σ H λxs H1=>xs.length<=sizeLine/\∀p,H1 p=none->Q (.ref p) (upd H1 p (.lst xs))
theorem D0 (h:PA X es t):PE X (.Tuple es x1 pos) (bQ4 t):=by
 refine⟨?_⟩;intro m s σ H Q I U;refine wpAny_Tuple_spliced (thn (h pos m s σ H _ I U) λJ c ⟨xs,H1,j,r,z,q⟩=>⟨by rw[<- r.length];exact z,?_⟩)
 have Y:=j.hok.fresh (Aa7 _)
 refine⟨.ref c.heap.objs.size,upd H1 c.heap.objs.size (.tup xs),j.laid (λb u e=>Aa6 _ e) (Aa7 _) ?_,rfl,q _ Y⟩
 exact⟨z,J,r,⟨_,Ac3 _ rfl,rfl,⟨_,rfl⟩,rfl⟩⟩
theorem C4 (h:PA X es t):PE X (.List es pos) (dR1 t):=by
 refine⟨?_⟩;intro m s σ H Q I U;refine wpAny_List_spliced (thn (h pos m s σ H _ I U) λJ c ⟨xs,H1,j,r,z,q⟩=>⟨by rw[<- r.length];exact z,?_⟩)
 have Y:=j.hok.fresh (Aa7 _)
 refine⟨.ref c.heap.objs.size,upd H1 c.heap.objs.size (.lst xs),j.laid (λb u e=>Aa6 _ e) (Aa7 _) ?_,rfl,q _ Y⟩
 exact⟨z,J,0,r,Ac3 _ rfl⟩
end
abbrev Sp:=List V->Hp->VK->XK->Prop
abbrev CXT:=List Env->Hp->Shared->XK->Value->Shared->Prop
structure dD9 (P:Program)(w:World)(K:Frag)(mg:Str->Option Value)(base:Heap)(A:Around)(outer:List Env)(s:Shared)(H:Hp):Prop where
 frames:A.frames=some outer
 mod:Mod K mg base
 bs:∀b o,base.get? b=some o->s.heap.get? b=some o/\H b=none
 bsz:base.objs.size<=s.heap.objs.size
 funs:s.heap.FunFrames base outer
 frf:∀b∈frs outer,H b=none
 hok:HOk P w H s.heap
 bare:AllBare s.gens
def CE (outer:List Env)(P:Program)(w:World)(H:Hp)(s:Shared)(Q:VK)(u:Value)(s':Shared):Prop:=
 ∃v H',s'.os=s.os/\AllBare s'.gens/\Un (frs outer) [] H H' s.heap s'.heap/\HOk P w H' s'.heap/\RelV v u/\Q v H'
def CR (CX:CXT)(outer:List Env)(P:Program)(w:World)(H:Hp)(s:Shared)(Q:VK)(E:XK)(r:Result)(s':Shared):Prop:=
 match r with
 | .ok (.ret u)=>CE outer P w H s Q u s'
 | .ok _=>False
 | .error e=>CX outer H s E e s'
structure J6 (P:Program)(w:World)(K:Frag)(mg:Str->Option Value)(base:Heap)(CX:CXT)(k:Nat)(f:Addr)(fd:FuncData)(ps:AJ)(sp:Sp):Prop where
 len:∀vs H Q E,sp vs H Q E->vs.length=ps.length
 run:∀(A:Around) (outer:List Env) (s:Shared) (H:Hp) (args:Args) (us:AH) (vs:List V) (Q:VK) (E:XK),Room k A->dD9 P w K mg base A outer s H->BindsTo s fd args (ps.zip us)->Vals vs us->sp vs H Q E ->
  codeAny (model P w) A (.call (.ref f) args) (CR CX outer P w H s Q E) s
section
theorem Inv.env0 (I:Inv X aA σ H s):dD9 X.prog X.w X.K X.mg X.base X.A X.stack s H:=
 ⟨I.ok.frames,I.ok.mod,I.bs,Aq I.ok.bsz I.sz,I.stack,I.stkFree,I.hok,I.bare⟩
theorem Inv.after (I:Inv X aA σ H s)(h:CE X.stack X.prog X.w H s Q u s'):EP X aA σ Q u s':=by
 obtain⟨v,m,os,e,un,j,r,q⟩:=h;obtain⟨Y,g,d,t,c⟩:=s';obtain rfl:c=s.os:=os;exact⟨v,m,I.call un j e (λb z=>absurd z SS),r,q⟩
end
def o6 (sp:Sp)(dvs:List V)(E:XK)(t:TA):TE:=λσ H Q=>t σ H λvs H1=>sp (vs++dvs) H1 Q E
def Binds (K:Frag)(fd:FuncData)(ps:AJ)(ds:AH):Prop:=
 ∀(s:Shared) (us:AH),K.In s.heap->(us++ds).length=ps.length->BindsTo s fd ⟨us,[]⟩ (ps.zip (us++ds))
theorem Binds.all {K:Frag}(h:∀us:AH,us.length=ps.length->bindArgs fd ⟨us,[]⟩=pure (ps.zip us)):Binds K fd ps []:=λs us _ e=>by
 rw[Bf]at e ⊢;exact .of_eq (h us e)
def cD0 (CX:CXT)(X:Cx)(E:XK):Prop:=∀(aA:Ee) (σ:St) (H:Hp) (s:Shared) (e:Value) (s':Shared),Inv X aA σ H s->CX X.stack H s E e s'->X.xe e s'
section
theorem dT9 {σ:St}(F:J6 X.prog X.w X.K X.mg X.base CX k f fd ps sp)(J:Room k X.A)(m:Binds X.K fd ps ds)(Y:Vals dvs ds)(M:cD0 CX X E)
  (I:Inv X aA σ H s) (r:Vals vs us) (h:sp (vs++dvs) H Q E):wpAny (model X.prog X.w) X.A (call (.ref f) us) (EP X aA σ Q) X.xe s:=by
 have c:=r.append Y
 have U:(us++ds).length=ps.length:=by rw[<- c.length];exact F.len _ _ _ _ h
 refine wpAny_call (codeAny_mono (F.run X.A X.stack s H ⟨us,[]⟩ (us++ds) (vs++dvs) Q E J I.env0 (m s us I.kIn U) c h) λr R j=>?_)
 cases r with
 | error e=>exact M aA σ H s e R I j
 | ok fl=>
  cases fl with
  | ret u=>exact I.after j
  | next=>exact False.elim j
  | brk=>exact False.elim j
  | cont=>exact False.elim j
theorem dI3 (F:J6 X.prog X.w X.K X.mg X.base CX k f fd ps sp)(hr:Room k X.A)(D:Gl X x)(P:X.mg x=some (.ref f))(B:PySem.W.keepIn X.K (.ref f)=true)(J:Binds X.K fd ps ds)(M:Vals dvs ds)(hx:cD0 CX X E)
  (U:PA X (e::es) t) (j:(x==("__debug__" : Str))=false:=by decide) (R:starEach (e::es) X.env=(false,eval e X.env)::starEach es X.env:=by rfl) (c:(backTo pos (starEach es X.env)).any (·.1)=false:=by rfl) :
  PE X (.Call (.Name x p) (e::es) [] pos) (o6 sp dvs E t):=by
 refine⟨?_⟩;intro Y s σ H Q I h;refine wpAny_Call_Name_kw (cL1 I D P ?_ j);refine PySem.W.callWith_K I.ok.mod.kin B (thn (U pos Y s σ H _ I h) λus s1 ⟨vs,H1,m,r,q⟩=>⟨m.kIn,?_⟩) R c
 exact dT9 F hr J M hx m r q
end
structure B8 (N P:AJ)(sc:Scope):Prop where
 kind:sc.kind=.function:=by rfl
 co:sc.isCoroutine=false:=by rfl
 gen:sc.isGenerator=false:=by rfl
 nd:N.Nodup:=by decide +kernel
 pre:N.take P.length=P:=by rfl
 par:∀x∈P,sc.names.lookup x=some .local\/sc.names.lookup x=some .cell:=by decide +kernel
 nofree:∀y∈sc.names,y.2≠.free:=by decide +kernel
theorem bG4 {kindOf:Str->Option NameKind}:∀{binds:List (Str×Value)} {m:Str->Option Value},(∀v,(x,v)∉binds)->bindL kindOf binds m x=m x
 | [],_,_=>rfl
 | (n,v)::r,m,h=>by
  unfold bindL;rw[bG4 λw e=>h w (Ad4 _ e)]
  split
  .have:x≠n:=by rintro rfl;exact h v Az
   simp[this]
  .rfl
theorem bK1 {kindOf:Str->Option NameKind}:∀{binds:List (Str×Value)} {m:Str->Option Value},(∀v,(x,v)∉binds)->bindC kindOf binds m x=m x
 | [],_,_=>rfl
 | (n,v)::r,m,h=>by
  unfold bindC;rw[bK1 λw e=>h w (Ad4 _ e)]
  split
  .rfl
  .have:x≠n:=by rintro rfl;exact h v Az
   simp[this]
theorem bH9 {kindOf:Str->Option NameKind}{x:Str}{v:Value}:∀{P:AJ} {vs:AH} {i:Nat} {m:Str->Option Value},P.Nodup->P[i]? = some x->vs[i]? = some v->kindOf x=some .local ->
  bindL kindOf (P.zip vs) m x=some v
 | [],_,_,_,_,h,_,_=>by simp at h
 | _::_,[],_,_,_,_,h,_=>by simp at h
 | p::P,w::vs,0,m,nd,h1,h2,hk=>by
  simp at h1 h2;subst h1;subst h2
  show bindL kindOf ((p,w)::P.zip vs) m p=_
  unfold bindL;rw[bG4 λv e=>(Aa5.mp nd).1 (List.of_mem_zip e).1,Ac hk]
  simp
 | p::P,w::vs,i+1,m,nd,h1,h2,hk=>by
  unfold bindL;exact bH9 (Aa5.mp nd).2 (by simpa using h1) (by simpa using h2) hk
theorem bH8 {kindOf:Str->Option NameKind}{x:Str}{v:Value}:∀{P:AJ} {vs:AH} {i:Nat} {m:Str->Option Value},P.Nodup->P[i]? = some x->vs[i]? = some v->kindOf x≠some .local ->
  bindC kindOf (P.zip vs) m x=some v
 | [],_,_,_,_,h,_,_=>by simp at h
 | _::_,[],_,_,_,_,h,_=>by simp at h
 | p::P,w::vs,0,m,nd,h1,h2,hk=>by
  simp at h1 h2;subst h1;subst h2
  show bindC kindOf ((p,w)::P.zip vs) m p=_
  unfold bindC;rw[bK1 λv e=>(Aa5.mp nd).1 (List.of_mem_zip e).1,Ab hk]
  simp
 | p::P,w::vs,i+1,m,nd,h1,h2,hk=>by
  unfold bindC;exact bH8 (Aa5.mp nd).2 (by simpa using h1) (by simpa using h2) hk
def Y6 (N:AJ)(vs:List V):St:=vs.map some++List.replicate (N.length-vs.length) none
def cB3 (CX:CXT)(P:Program)(w:World)(K:Frag)(mg:Str->Option Value)(base:Heap)(N:AJ)(qual:Str)(scope:Scope)(f:Addr)(cd:Value)(A:Around)(outer:List Env)(s:Shared)(H:Hp)(E:XK):Cx where
 prog:=P
 w:=w
 K:=K
 mg:=mg
 base:=base
 A:=A.deeper (envOfC qual scope s.heap.objs.size f cd)
 N:=N
 s₀:=s
 H₀:=H
 env:=envOfC qual scope s.heap.objs.size f cd
 outer:=outer
 stack:=envOfC qual scope s.heap.objs.size f cd::outer
 ex:=[]
 calm:=true
 fn:=λ_=>true
 pn:=[]
 xe:=λe s'=>wpAny (model P w) (A.deeper (envOfC qual scope s.heap.objs.size f cd)) (leaving (envOfC qual scope s.heap.objs.size f cd) e) (λ_ s''=>CX outer H s E e s'') (λe' s''=>CX outer H s E e' s'') s'
theorem bQ6 {sc:Scope}(h:sc.names.lookup x=some .cell):∃c,(cellsFrom n sc.names []).lookup x=some c:=by
 have q:=PySem.W.cellsFrom_some sc.names n [] (.inl h)
 exact Option.isSome_iff_exists.mp q
theorem cN7 {K:Frag}
  (S:B8 N ps scope) (R:A.handled=none) (m:dD9 P w K mg base A outer s H) (B:vs.length=ps.length) (r:Vals vs us)
  (x:InCallC s s.heap.objs.size (bindL (envOfC qual scope s.heap.objs.size f cd).kindOf (ps.zip us) λ_=>none) (cellsFrom (s.heap.objs.size+1) scope.names []) (bindC (envOfC qual scope s.heap.objs.size f cd).kindOf (ps.zip us) λ_=>none) s1) :
  Inv (cB3 CX P w K mg base N qual scope f cd A outer s H E) [] (Y6 N vs) H s1:=by
 have Q:ps.length<=N.length:=by have:=congrArg List.length S.pre;rw[Ad1]at this;lia
 obtain⟨h1,tk,rfl,U⟩:=x.done;have Y:∀b:Addr,b∉(cB3 CX P w K mg base N qual scope f cd A outer s H E).ex:=λb z=>absurd (show b∈([]) from z) SS
 refine⟨⟨m.mod,S.kind,rfl,rfl,Aa7 _,λy z c h1 j=>?_,λy hy=>?_,λy c _ h=>?_,λ_=>R,Around.frames_deeper m.frames,.inr ⟨rfl,rfl⟩,λb z=>absurd z (Y b),m.bs,m.bsz,λb _ _=>Y b,λb z=>absurd z (Y b),m.funs,m.frf⟩,
  rfl,m.bare,Un.kept U,⟨_,x.toInCall.ns,λi y v h1 j F=>?_⟩,λy c h=>⟨_,x.cell y c h⟩,m.hok.fresh (Aa7 _),λy c h=>?_,λp hp=>absurd (show p∈([]) from hp) SS,m.hok.kept U,?_⟩
 .exact name_of_addr x.apart (PySem.mem_of_lookup h1) (PySem.mem_of_lookup j)
 .have hy:=hy
  rcases hy with hy | hy
  .exact bQ6 hy
  .exact absurd rfl (S.nofree _ (PySem.mem_of_lookup hy))
 .exact Cm (x.above y c (PySem.mem_of_lookup h))
 .have hi:i<vs.length:=by
   unfold Y6 at j;by_cases hi:i<vs.length
   .exact hi
   .rw[Cf (by simpa using hi)]at j
    rw[Ct]at j;split at j <;> cases j
  have M:vs[i]? = some v:=by
   unfold Y6 at j;rw[Bs (by simpa using hi),Aa9]at j
   cases e:vs[i]? with
   | none=>rw[e]at j;cases j
   | some a=>rw[e]at j;cases j;rfl
  obtain⟨u,J,D⟩:=r.get M;have hp:ps[i]? = some y:=by
   rw[<- S.pre,List.getElem?_take_of_lt YY];exact h1
  have X:ps.Nodup:=by rw[<- S.pre];exact S.nd.sublist (List.take_sublist _ _)
  refine⟨u,D,?_⟩;rcases S.par y (Aw hp) with k | k
  .exact .inl ⟨k,bH9 X hp J k⟩
  .obtain⟨c,e⟩:=bQ6 k;refine .inr ⟨.inl k,c,e,?_⟩;have q:=x.cell y c e;rw[bH8 X hp J (by show scope.names.lookup y≠_;rw[k];decide)]at q
   exact q
 .exact m.hok.fresh (Cm (x.above y c (PySem.mem_of_lookup h)))
 .unfold Y6;show _=N.length;rw[Ab7,Aa3,Dg]
  simp[*]
theorem eB1 {K:Frag}{dV kV doc pm cdv ct oc:Value}
  (lk:K.lookup f=some ⟨oc,od,.func (PySem.W.fnOf name qual params body scope dV kV doc pm an cdv ct),osl⟩) (M:PySem.W.codeIn K cdv qual=true) (S:B8 N ps scope)
  (len:∀vs H Q E,sp vs H Q E->vs.length=ps.length)
  (j:∀(A:Around) (outer:List Env) (s:Shared) (H:Hp) (vs:List V) (Q:VK) (E:XK),Room k (A.deeper (envOfC qual scope s.heap.objs.size f cdv))->sp vs H Q E ->
   ∃t,PSs (cB3 CX P w K mg base N qual scope f cdv A outer s H E) body t/\t {nx:=λ_ H'=>Q .non H',rt:=Q} (Y6 N vs) H) :
  J6 P w K mg base CX (k+1) f (PySem.W.fnOf name qual params body scope dV kV doc pm an cdv ct) ps sp:=by
 refine⟨len,λA outer s H args us vs Q E R Y hb r X=>?_⟩
 have hl:=len _ _ _ _ X
 have KX:=Y.mod.kin.keeps λb o e=>(Y.bs b o e).1
 have D:=Y.mod.nolimit.keeps λb o e=>(Y.bs b o e).1
 have c:∀y∈ps.zip us,scope.names.lookup y.1=some .local\/(scope.names.lookup y.1=some .cell/\((cellsFrom (s.heap.objs.size+1) scope.names []).lookup y.1).isSome=true):=by
  rintro⟨n,v⟩ hy;rcases S.par n (List.of_mem_zip hy).1 with q | q
  .exact .inl q
  .exact .inr ⟨q,PySem.W.cellsFrom_some _ _ _ (.inl q)⟩
 refine codeAny_call_function R.depth (KX _ _ lk) rfl S.co S.gen rfl (PySem.W.codeRec_of KX M) (hb _ _ _ _ ?_);refine wpAny_newFunctionEnv_cells S.kind c λenv he s1 x=>?_
 subst he;refine⟨D.keeps x.toInCall.keep,codeAny_func ?_⟩;obtain⟨t,ht,hq⟩:=j A outer s H vs Q E (R.deeper _) X;have I:Inv (cB3 CX P w K mg base N qual scope f cdv A outer s H E) [] (Y6 N vs) H s1:=cN7 S R.hd Y hl r x;refine wpAny_mono (ht [] s1 (Y6 N vs) H _ I hq) (λfl B m=>?_) λe B m=>m
 have fin:∀{U:St} {H':Hp} {v:V} {u:Value},Inv (cB3 CX P w K mg base N qual scope f cdv A outer s H E) [] U H' B->RelV v u->Q v H'->CE outer P w H s Q u B:=
  λ{U H' v u} J F q=>⟨v,H',J.os,J.bare,J.base,J.hok,F,q⟩
 cases fl with
 | ret u=>
  obtain⟨v,U,H',J,F,q⟩:=m;exact fin J F q
 | next=>
  obtain⟨U,H',J,q⟩:=m;exact fin (v:=V.non) J rfl q
 | brk=>
  obtain⟨_,_,_,q⟩:=m;exact False.elim q
 | cont=>
  obtain⟨_,_,_,q⟩:=m;exact False.elim q
section
variable {X:Cx}{x:Str}{p pos:Pos}{e:Expr}{es:AN}{t:TA}{id T:String}{r:List V->Hp->VK->Prop}
def tCB (r:List V->Hp->VK->Prop)(t:TA):TE:=λσ H Q=>t σ H λvs H1=>r vs H1 Q
theorem B4 (J:Q4 X (.builtin id) r)(R:Gl X x)(D:X.mg x=none)(B:bootBuiltins x=some (.builtin id))(U:PA X (e::es) t)(F:x≠"__name__" := by decide)(j:(x==("__debug__" : Str))=false:=by decide)
  (M:starEach (e::es) X.env=(false,eval e X.env)::starEach es X.env:=by rfl) (c:(backTo pos (starEach es X.env)).any (·.1)=false:=by rfl):PE X (.Call (.Name x p) (e::es) [] pos) (tCB r t):=by
 refine⟨?_⟩;intro m s σ H Q I h;exact wpAny_Call_Name_kw (y4 I R D B (PyProof.Rows.callWith_builtin1 (thn (U pos m s σ H _ I h) λus s1 ⟨vs,H1,Y,r1,P⟩=>J m s1 σ H1 vs us Q Y r1 P) M c) F j)
theorem J9 (J:Q4 X (.type T) r)(R:Gl X x)(D:X.mg x=none)(B:bootBuiltins x=some (.type T))(U:PA X (e::es) t)(F:x≠"__name__" := by decide)(j:(x==("__debug__" : Str))=false:=by decide)
  (M:starEach (e::es) X.env=(false,eval e X.env)::starEach es X.env:=by rfl) (c:(backTo pos (starEach es X.env)).any (·.1)=false:=by rfl):PE X (.Call (.Name x p) (e::es) [] pos) (tCB r t):=by
 refine⟨?_⟩;intro m s σ H Q I h;exact wpAny_Call_Name_kw (y4 I R D B (Bo (thn (U pos m s σ H _ I h) λus s1 ⟨vs,H1,Y,r1,P⟩=>J m s1 σ H1 vs us Q Y r1 P) M c) F j)
end
end L2
namespace HT
open PySem PyProof.Rows
def s9:AF->AF->Bool
 | [],[]=>false
 | [],_::_=>true
 | _::_,[]=>false
 | x::xs,y::ys=>if x=y then s9 xs ys else decide (x<y)
section
open PySem.SeqAt
open PySem.AutoSeq1 (wpAny_loadPart')
open PySem.MeetsSeq PySem.MeetsSeq2 PySem.MeetsSeq3
end
section
theorem dJ1 (ht:IsTup s.heap t vs.toArray)(hb:IsTup s.heap b ws.toArray)(B:vs≠[])
  (h1:ws=[]->Q (.ref t) s) (h2:ws≠[]->Q (.ref s.heap.objs.size) {s with heap:=s.heap.push {cls:=.type "tuple",data:=.seq (vs++ws).toArray}})
  (M:vs.length+ws.length<=sizeLine):wpAny (model prog w) A (binaryOp .Add (.ref t) (.ref b)) Q E s:=by
 obtain⟨⟨cls,D,data,sl⟩,ho,hc,n,hd⟩:=id ht;obtain⟨⟨R,c,X,m⟩,j,U,P,J⟩:=id hb;subst hc hd U J;have e:vs.toArray++ws.toArray=(vs++ws).toArray:=by simp
 by_cases Y:ws=[]
 .exact concat_meets ⟨_,ho,rfl⟩ ⟨_,j,rfl⟩ noFill_tuple_add seq_tuple_add PySem.F.slot_tuple_add PySem.F.entry_tuple_add (PySem.F.args_tuple_add_2 _ _)
   (tuple_addW1 t b vs.toArray ws.toArray n P D c sl m (by simpa using B) (by simp[Y])) ⟨ho,j,h1 Y⟩
 .refine concat_meets ⟨_,ho,rfl⟩ ⟨_,j,rfl⟩ noFill_tuple_add seq_tuple_add PySem.F.slot_tuple_add PySem.F.entry_tuple_add (PySem.F.args_tuple_add_2 _ _)
   (tuple_addW2 t b vs.toArray ws.toArray n P D c sl m (by simpa using B) (by simpa using Y) (by exact M)) ⟨ho,j,?_⟩
  rw[e];exact h2 Y
def sIx (n d:Nat):Option Int->Nat
 | none=>d
 | some v=>if v<0 then(v+(n:Int)).toNat else min v.toNat n
theorem dV6 (n d:Nat)(j:d<=n)(o:Option Int):sIx n d o<=n:=by
 cases o with
 | none=>exact j
 | some v=>
  show(if v<0 then(v+n).toNat else min v.toNat n)<=n
  by_cases e:v<0
  .rw[Ac e];lia
  .rw[Ab e];exact Nat.min_le_right _ _
theorem cG9 (v:Int)(n d:Nat):(if v<0 then max (v+(n:Int)) 0 else min v (n:Int))=((sIx n d (some v):Nat):Int):=by
 show(if v<0 then max (v+n) 0 else min v n)=(((if v<0 then(v+n).toNat else min v.toNat n):Nat):Int)
 by_cases e:v<0
 .simp only[Ac e];simp
 .simp  [Ab e];lia
theorem cD8 (lo hi:Option Int)(n:Nat):Builtin.Slice.sliceAdjust lo hi 1 (n:Int)=(((sIx n 0 lo:Nat):Int),((sIx n n hi:Nat):Int)):=by
 have h1:¬((1)<0):=by decide
 unfold Builtin.Slice.sliceAdjust;refine Prod.ext ?_ ?_
 .cases lo with
  | none=>rfl
  | some v=>exact cG9 v n 0
 .cases hi with
  | none=>rfl
  | some v=>exact cG9 v n n
theorem cB0 (i j:Nat):Builtin.Slice.slicePlaces (i:Int) (j:Int) 1=j-i:=by
 unfold Builtin.Slice.slicePlaces;have h1:(1:Int)>0:=by decide
 simp  [h1,if_true,Int.ediv_one]
 split <;> simp_all
theorem bB4 (p:IsPart v o)(h:Q o s):wpAny (model prog w) A (Builtin.Slice.slicePartIndex v) Q E s:=by
 cases p with
 | none=>exact slicePart_none h
 | int i t=>exact slicePart_int h
theorem p6 {lo hi:Option Int}{Q:Int×Int×Nat->Shared->Prop}(m:s.heap.IsSliceOf sl vl vu .none)(pl:IsPart vl lo)(Y:IsPart vu hi)
  (h:Q (((sIx n 0 lo:Nat):Int),1,sIx n n hi-sIx n 0 lo) s):wpAny (model prog w) A (Builtin.Slice.sliceApplied (.ref sl) (pure (n:Int))) Q E s:=by
 obtain⟨os,j,c,e⟩:=id m;refine Aa (Aa (wpAny_field j e rfl (Aa (wpAny_field j e rfl (Aa (wpAny_field j e rfl (Ae ?_)))))));refine Aa (slicePart_none ?_);refine Aa (bB4 pl (Aa (bB4 Y (Aa (Ae ?_)))));show wpAny _ _ (match Builtin.Slice.sliceAdjust lo hi 1 n with | (lo,hi)=>pure (lo,(1:Int),Builtin.Slice.slicePlaces lo hi 1)) _ _ s
 rw[cD8 lo hi n];show wpAny _ _ (pure (((sIx n 0 lo):Int),(1),Builtin.Slice.slicePlaces ((sIx n 0 lo:Nat)) ((sIx n n hi):Int) 1)) _ _ s;rw[cB0];exact Ae h
theorem cW8 (xs:AK)(i k:Nat):((List.range k).filterMap λ(m:Nat)=>xs[((i:Int)+(m:Int)*1).toNat]?).toArray=((xs.toList.drop i).take k).toArray:=by
 have e:(λ(m:Nat)=>xs[(i+(m:Int)*1).toNat]?)=λm=>xs[i+m]? := by
  funext m
  have:(i+(m:Int)*1).toNat=i+m:=by lia
  rw[this]
 rw[e]
 have:=pick_run xs i k
 rw[Ba]at this;have j:((λx=>xs[x]?) ∘ λx=>i+x)=λm=>xs[i+m]? := rfl
 rw[j]at this;rw[this]
theorem aP5 {lo hi:Option Int}(j:IsTup s.heap t items)(U:s.heap.IsSliceOf sl vl vu .none)(pl:IsPart vl lo)(D:IsPart vu hi)
  (R:¬(sIx items.size 0 lo=0/\sIx items.size items.size hi=items.size))
  (h:Q (.ref s.heap.objs.size) {s with heap:=s.heap.push {cls:=.type "tuple",data:=.seq ((items.toList.drop (sIx items.size 0 lo)).take (sIx items.size items.size hi-sIx items.size 0 lo)).toArray}})
  (M:items.size<=sizeLine):wpAny (model prog w) A (getItem (.ref t) (.ref sl)) Q E s:=by
 have e:sizeOk (.seq ((items.toList.drop (sIx items.size 0 lo)).take (sIx items.size items.size hi-sIx items.size 0 lo)).toArray):=by
  show((items.toList.drop (sIx items.size 0 lo)).take (sIx items.size items.size hi-sIx items.size 0 lo)).toArray.size<=sizeLine
  rw[Ab2,Ad1,Bm,Bb];omega
 have F:sIx items.size items.size hi<=items.size:=dV6 _ _ (Aa7 _) hi
 obtain⟨os,X,m,J⟩:=id U;have c:s.TypeIs (.ref sl) "slice" := ⟨os,X,m⟩;unfold getItem
 try with_reducible refine Cg ?_
 refine Aa (wpAny_sequenceKey j.typeIs DD ?_)
 refine Aa (Cn j.typeIs Bp
  (Cj Bp j.typeIs entry_tuple_getitem ?_ (args_tuple_getitem _ _)))
 show wpAny _ _ (Builtin.Tuple.tupleItemsOf (.ref t) >>= _) _ _ s
 refine Aa (tupleItemsOf_ j ?_);refine Aa (wpAny_typeOf c ?_);refine Aa (p6 U pl D ?_);have Y:¬((((sIx items.size 0 lo):Int)==0&&(1:Int)==1&&(sIx items.size items.size hi-sIx items.size 0 lo)==items.size)=true):=by
  intro q;rw[As,As]at q;have B:=eq_of_beq q.1.1;have P:=eq_of_beq q.2;exact R ⟨YY,YY⟩
 show wpAny _ _ (if(((sIx items.size 0 lo):Int)==0&&(1)==1&&(sIx items.size items.size hi-sIx items.size 0 lo)==items.size)=true then _ else _) _ _ s
 rw[Ab Y,cW8];first
  | exact Aa (Cb (Ae ⟨_,rfl,Ae h⟩) e)
  | exact Aa (Cb (Aa (Ae (Ae ⟨_,rfl,Ae h⟩))) e)
  | exact Aa (Aa (Cb (Ae (Ae ⟨_,rfl,Ae h⟩)) e))
  | exact Aa (Aa (Cb (Ae ⟨_,rfl,Ae h⟩) e))
end
end HT
namespace L2
open PySem PySem.Spec PyProof.Rows
abbrev TO:=St->Hp->(Option Int->Hp->Prop)->Prop
structure PO (X:Cx)(e:Option Expr)(t:TO):Prop where
 mk ::
 run :
  ∀(aA:Ee) (s:Shared) (σ:St) (H:Hp) (Q:Option Int->Hp->Prop),Inv X aA σ H s->t σ H Q ->
   wpAny (model X.prog X.w) X.A (evalPart e X.env) (λu s'=>∃o H',Inv X aA σ H' s'/\IsPart u o/\Q o H') X.xe s
instance {X:Cx} {e:Option Expr} {t:TO}:CoeFun (PO X e t) λ_=>
 (∀(aA:Ee) (s:Shared) (σ:St) (H:Hp) (Q:Option Int->Hp->Prop),Inv X aA σ H s->t σ H Q ->
  wpAny (model X.prog X.w) X.A (evalPart e X.env) (λu s'=>∃o H',Inv X aA σ H' s'/\IsPart u o/\Q o H') X.xe s):=⟨PO.run⟩
def cG3:TO:=λ_ H Q=>Q none H
def dL9 (t:TE):TO:=λσ H Q=>t σ H λx H1=>∃i,x=.int i/\Q (some i) H1
section
variable {X:Cx}{e:Expr}{te:TE}{lo hi:Option Expr}{tl th:TO}{pos p2:Pos}
theorem aF5:PO X none cG3:=by
 refine⟨?_⟩;intro j s σ H Q I h;exact Ae ⟨none,H,I,.none,h⟩
theorem Q8 (h:PE X e te):PO X (some e) (dL9 te):=by
 refine⟨?_⟩;intro c s σ H Q I m;refine thn (h c s σ H _ I m) λu J pz=>?_
 obtain⟨x,H1,j,U,Y⟩:=pz;obtain⟨i,rfl,q⟩:=Y;obtain⟨t,rfl⟩:=U;exact⟨some i,H1,j,.int i t,q⟩
def SlR (X:Cx)(r:V->Option Int->Option Int->Hp->VK->Prop):Prop:=
 ∀(aA:Ee) (s:Shared) (σ:St) (H:Hp) (x:V) (v vl vu:Value) (lo hi:Option Int) (sl:Addr) (Q:VK),Inv X aA σ H s->RelV x v->s.heap.IsSliceOf sl vl vu .none->IsPart vl lo->IsPart vu hi->r x lo hi H Q ->
  ∃T id,typeLookup (.type T) "__getitem__" = pure (some (.builtin id))/\s.TypeIs v T/\wpAny (model X.prog X.w) X.A (getItem v (.ref sl)) (EP X aA σ Q) X.xe s
def tSl (r:V->Option Int->Option Int->Hp->VK->Prop)(te:TE)(tl th:TO):TE:=λσ H Q=>te σ H λx H1=>tl σ H1 λl H2=>th σ H2 λu H3=>r x l u H3 Q
theorem U3 (hr:SlR X r)(P:PE X e te)(hl:PO X lo tl)(hu:PO X hi th):PE X (.Subscript e (.Slice lo hi none p2) pos) (tSl r te tl th):=by
 refine⟨?_⟩;intro j s σ H Q I h;refine Subscript_ (thn (P j s σ H _ I h) λv s1 pz=>?_)
 obtain⟨x,H1,M,r1,q1⟩:=pz;refine wpAny_Slice (thn (hl j s1 σ H1 _ M q1) λm s2 ⟨l,J,R,pl,q2⟩=>thn (hu j s2 σ J _ R q2) λY c pz=>?_)
 obtain⟨u,U,D,pu,q3⟩:=pz;refine Ae ?_;have F:Inv X j σ U {c with heap:=c.heap.push {cls:=.type "slice",data:=.fields #[m,Y,.none]}}:=D.kept λb ob q=>Aa6 _ q
 obtain⟨T,id,B,ht,hg⟩:=hr j {c with heap:=c.heap.push {cls:=.type "slice",data:=.fields #[m,Y,.none]}} σ U x v m Y l u c.heap.objs.size Q F r1 (Heap.IsSliceOf.new ..) pl pu q3
 exact tail_any ht B hg (by with_unfolding_all rfl)
def bZ2 (xs:List V)(lo hi:Option Int):List V:=(xs.drop (HT.sIx xs.length 0 lo)).take (HT.sIx xs.length xs.length hi-HT.sIx xs.length 0 lo)
theorem aU1 (xs:List V)(lo hi:Option Int):(bZ2 xs lo hi).length<=xs.length:=by
 unfold bZ2;rw[Ad1,Bm]
 lia
def eF7 (K:Frag):V->Option Int->Option Int->Hp->VK->Prop:=λx lo hi H Q=>∃a xs,x=.ref a/\SqT K H a xs /\
 ¬(HT.sIx xs.length 0 lo=0/\HT.sIx xs.length xs.length hi=xs.length)/\∀p,H p=none->Q (.ref p) (upd H p (.tup (bZ2 xs lo hi)))
theorem dU4:SlR X (eF7 X.K):=by
 intro D s σ H x v F B lo hi sl Q I R Y pl M h;obtain⟨a,xs,rfl,J,U,q⟩:=h;cases R;obtain⟨its,r,c,m⟩:=I.tuple J;have j:its.toArray.size=xs.length:=by exact r.length.symm
 refine⟨"tuple",_,Bp.lookup,c.typeIs,?_⟩;refine HT.aP5 c Y pl M (by rw[j];exact U) ?_ (by rw[j];exact m)
 rw[j];refine⟨.ref s.heap.objs.size,_,I.laid (λb ob q=>Aa6 _ q) (Aa7 _) ?_,rfl,q _ (I.hok.fresh (Aa7 _))⟩
 exact⟨Aq (aU1 xs lo hi) m,_,(r.drop (HT.sIx xs.length 0 lo)).take (HT.sIx xs.length xs.length hi-HT.sIx xs.length 0 lo),Tup0.nw _ _ _⟩
def cX5 (K:Frag):R2:=λx y H Q=>∃a b xs ys,x=.ref a/\y=.ref b/\SqT K H a xs/\SqT K H b ys/\xs≠[]/\xs.length+ys.length<=sizeLine /\
 (ys=[]->Q (.ref a) H)/\(ys≠[]->∀p,H p=none->Q (.ref p) (upd H p (.tup (xs++ys))))
theorem Vals.nil_iff (r:Vals xs us):us=[]↔xs=[]:=by
 cases r with
 | nil=>simp
 | cons _ _=>simp
theorem dC6:OpR X (binaryOp .Add) (cX5 X.K):=by
 intro aA s σ H x y v u Q I B P h;obtain⟨a,b,xs,ys,rfl,rfl,U,J,M,m,D,F⟩:=h;cases B;cases P;obtain⟨its,c,R,_⟩:=I.tuple U;obtain⟨Y,j,p2,_⟩:=I.tuple J;refine HT.dJ1 R p2 (λz=>M (c.nil_iff.mp z)) (λz=>⟨.ref a,H,I,rfl,D (j.nil_iff.mp z)⟩) (λz=>?_) (by rw[<- c.length,<- j.length];exact m)
 refine⟨.ref s.heap.objs.size,_,I.laid (λb ob q=>Aa6 _ q) (Aa7 _) ?_,rfl,F (λw=>z (j.nil_iff.mpr w)) _ (I.hok.fresh (Aa7 _))⟩
 exact⟨by rw[Ab7];exact m,_,c.append j,Tup0.nw _ _ _⟩
end
def ixN (n:Nat)(i:Int):Option Nat:=if 0<=i then(if i<n then some i.toNat else none) else if -(n:Int)<=i then some (i+n).toNat else none
def atI {α:Type}(xs:List α)(i:Int):Option α:=(ixN xs.length i).bind λj=>xs[j]?
theorem bM9 (h:ixN n i=some j):seqIndex? i n=some j/\j<n /\ -(n:Int)<=i/\i<n:=by
 unfold ixN at h;by_cases c:0<=i
 .rw[Ac c]at h;by_cases h1:i<n
  .rw[Ac h1]at h;have e:=Ab4 h;exact⟨by rw[seqIndex_of c h1,e],LL,LL,h1⟩
  .rw[Ab h1]at h;cases h
 .rw[Ab c]at h;by_cases h1 : -n<=i
  .rw[Ac h1]at h;have e:=Ab4 h;exact⟨by rw[seqIndex_neg YY h1,e],LL,h1,LL⟩
  .rw[Ab h1]at h;cases h
theorem bK2 {v:α}(h:atI xs i=some v):∃j,seqIndex? i xs.length=some j/\xs[j]? = some v/\j<xs.length /\ -(xs.length:Int)<=i/\i<xs.length:=by
 unfold atI at h;cases e:ixN xs.length i with
 | none=>rw[e]at h;cases h
 | some j=>
  rw[e]at h;obtain⟨h1,c,s,m⟩:=bM9 e;exact⟨j,h1,h,c,s,m⟩
def dC8 (b:Expr):Prop:=∀o i,subscripted b false o i=operate [o,i] (getItem o i)
def IxR (X:Cx)(r:R2):Prop:=
 ∀(value slice:Expr) (aA:Ee) (s:Shared) (σ:St) (H:Hp) (x y:V) (v u:Value) (Q:VK),Inv X aA σ H s->RelV x v->RelV y u->r x y H Q ->
  subscripted slice false v u=operate [v,u] (getItem v u)->wpAny (model X.prog X.w) X.A (subscriptTail value slice v u) (EP X aA σ Q) X.xe s
def MtR (X:Cx)(id:String)(r:V->List V->Hp->VK->Prop):Prop:=
 ∀(aA:Ee) (s:Shared) (σ:St) (H:Hp) (x:V) (xs:List V) (v:Value) (us:AH) (Q:VK),Inv X aA σ H s->RelV x v->Vals xs us->r x xs H Q ->
  wpAny (model X.prog X.w) X.A (call (.builtin id) (v::us)) (EP X aA σ Q) X.xe s
section
variable {X:Cx}{a b:Expr}{ta tb:TE}{pos:Pos}
theorem IxR.or (h:IxR X r)(J:IxR X r'):IxR X (λx y H Q=>r x y H Q\/r' x y H Q):=by
 intro j e c s σ H x y v u Q I Y U q m;rcases q with q | q
 .exact h j e c s σ H x y v u Q I Y U q m
 .exact J j e c s σ H x y v u Q I Y U q m
theorem B5 (U:IxR X r)(m:PE X a ta)(Y:PE X b tb)(J:dC8 b:=by exact λ_ _=>rfl):PE X (.Subscript a b pos) (tOp r ta tb):=by
 refine⟨?_⟩;intro c s σ H Q I h;exact Subscript_ (dV4 m Y I h λv u D x y e j M R q=>U a b c D σ e x y v u Q j M R q (J _ _))
def eE1 (K:Frag):R2:=λx y H Q=>∃p xs i v,x=.ref p/\y=.int i/\SqL K H p xs/\atI xs i=some v/\Q v H
def dY5 (K:Frag):R2:=λx y H Q=>∃p xs i v,x=.ref p/\y=.int i/\SqT K H p xs/\atI xs i=some v/\Q v H
def eA5:R2:=λx y H Q=>∃z i c,x=.str z/\y=.int i/\z.length<=sizeLine/\atI z.cps.toList i=some c/\Q (.str ⟨#[c]⟩) H
theorem ix_list:IxR X (eE1 X.K):=by
 intro Y m R s σ H x y v u Q I rx ry h M;obtain⟨p,xs,i,z,rfl,rfl,hq,P,q⟩:=h;cases rx;obtain⟨t,rfl⟩:=ry;obtain⟨its,r,pl,hz⟩:=I.list hq;obtain⟨j,h1,D,h3,F,B⟩:=bK2 P;obtain⟨w,U,c⟩:=r.get D;have hl:=r.length;have hn:=aT1;have fin:EP X R σ Q w s:=⟨z,H,I,c,q⟩;by_cases J:0<=i
 .have e:i.toNat=j:=by
   rw[seqIndex_of J B]at h1;exact Ab4 h1
  exact item_listR pl.isList J LL (by rw[e];simpa using U) fin M
 .have e:(i+its.toArray.size).toNat=j:=by
   rw[seqIndex_neg YY F]at h1
   rw[Ab2,<- hl];exact Ab4 h1
  exact subscriptTail_builtinR pl.isList.typeIs slot_list_getitem.lookup
   (wpAny_getItem_list_neg pl.isList YY (by rw[Ab2] <;> simp_all) LL (by rw[e];simpa using U) ⟨rfl,fin⟩) M
theorem ix_tup:IxR X (dY5 X.K):=by
 intro m c Y s σ H x y v u Q I B P h F;obtain⟨p,xs,i,z,rfl,rfl,D,M,q⟩:=h;cases B;obtain⟨t,rfl⟩:=P;obtain⟨its,r,pl,hz⟩:=I.tuple D;obtain⟨j,h1,J,h3,h4,h5⟩:=bK2 M;obtain⟨w,U,e⟩:=r.get J;have R:=r.length;have hn:=aT1;have fin:EP X Y σ Q w s:=⟨z,H,I,e,q⟩;exact subscriptTail_builtinR pl.typeIs slot_tuple_getitem.lookup
  (getItem_tuple pl LL LL (by rw[Ab2,<- R];exact h1) (by simpa using U) ⟨rfl,fin⟩) F
theorem dS0:IxR X eA5:=by
 intro m e aA s σ H x y v u Q I P ry h B;obtain⟨z,i,c,rfl,rfl,hz,D,q⟩:=h;obtain⟨t,rfl⟩:=P;obtain⟨t',rfl⟩:=ry;obtain⟨j,h1,J,h3,M,R⟩:=bK2 D;have F:z.cps.toList.length=z.length:=by simp[Str.length]
 rw[F]at h1 M R;have hn:=aT1;exact tail_any (typeIs_str s z t) slot_str_getitem.lookup (getItem_str (by
  have Y:decide (i < -(2^63))=false:=Aj LL
  have U:decide (i≥2^63)=false:=Aj LL
  rw[Y,U,Bool.or_false]) (by rw[h1];simpa using J) ⟨.str ⟨#[c]⟩,H,I.tok _,⟨_,rfl⟩,q⟩) B
def rIx (K:Frag):R2:=λx y H Q=>eE1 K x y H Q\/dY5 K x y H Q\/eA5 x y H Q
theorem D5:IxR X (rIx X.K):=ix_list.or (ix_tup.or dS0)
theorem bZ5 (its:AH)(n j:Nat)(u:Value):Obj.mapSeq (·.setIfInBounds j u) {cls:=.type "list",data:=.seq its.toArray n}={cls:=.type "list",data:=.seq (its.set j u).toArray n}:=by
 simp[Obj.mapSeq]
theorem Inv.lst {aA:Ee}{σ:St}{H:Hp}{s:Shared}{p:Addr}{xs:List V}(I:Inv X aA σ H s)(h:H p=some (.lst xs)) :
  ∃(its:AH) (n:Nat),Vals xs its/\s.heap.get? p=some {cls:=.type "list",data:=.seq its.toArray n}/\xs.length<=sizeLine:=by
 obtain⟨z,its,n,r,e⟩:=I.hok p _ h;exact⟨its,n,r,e,z⟩
theorem Inv.lstUpd {σ:St}{its its':AH}(I:Inv X aA σ H s)(h:H p=some (.lst xs))
  (ho:s.heap.get? p=some {cls:=.type "list",data:=.seq its.toArray n}) (j:f {cls:=.type "list",data:=.seq its.toArray n}={cls:=.type "list",data:=.seq its'.toArray n'}) (r:Vals ys its') (m:ys.length<=sizeLine) (t:Nat) :
  Inv X aA σ (upd H p (.lst ys)) {s with heap:=s.heap.update p f,toks:=t}:=by
 have e:(s.heap.update p f).get? p=some {cls:=.type "list",data:=.seq its'.toArray n'}:=by
  rw[Dd f ho (by rw[j] <;> rfl),j]
 exact I.write (x:=p) (e:=p) (by rw[h];trivial) (.inl rfl) (λb u c q=>(Dr _ _ (Ne.symm c)).trans q) ⟨_,e⟩ ⟨m,its',n',r,e⟩
def cR6:V->V->V->Hp->(Hp->Prop)->Prop:=λo i v H Q=>∃p xs k j,o=.ref p/\i=.int k/\H p=some (.lst xs)/\ixN xs.length k=some j/\Q (upd H p (.lst (xs.set j v)))
theorem bA1:eC8 X cR6:=by
 intro P s σ H o i v ov iv u Q I F D B h;obtain⟨p,xs,k,j,rfl,rfl,hp,M,q⟩:=h;cases F;obtain⟨t,rfl⟩:=D;obtain⟨its,n,r,ho,R⟩:=I.lst hp;obtain⟨h1,h2,U,J⟩:=bM9 M;have c:=r.length;have hn:=aT1;have m:=
  I.lstUpd hp ho (bZ5 its n j u) (r.set B j) (by rw[Dv];exact R) s.toks
 by_cases Y:0<=k
 .have e:k.toNat=j:=by
   rw[seqIndex_of Y J]at h1;exact Ab4 h1
  exact PySem.W.ki_setAt ho Y LL (by rw[Ab2,<- c];exact J) (by rw[e];exact⟨_,m,q⟩)
 .have e:(k+its.toArray.size).toNat=j:=by
   rw[seqIndex_neg YY U]at h1
   rw[Ab2,<- c];exact Ab4 h1
  exact PySem.W.ki_setBack ho YY (by rw[Ab2,<- c];exact U) LL (by rw[e];exact⟨_,m,q⟩)
theorem bN6 (lo hi:Option Int)(n:Nat):(sliceBounds lo hi none n).1=((HT.sIx n 0 lo:Nat):Int)/\(sliceBounds lo hi none n).2.1=((HT.sIx n n hi:Nat):Int)/\(sliceBounds lo hi none n).2.2=1:=by
 refine⟨?_,?_,rfl⟩
 .cases lo with
  | none=>simp[sliceBounds,HT.sIx]
  | some i=>
   simp  [sliceBounds,HT.sIx,Option.getD_none,show(1:Int)>0 by decide,if_true]
   by_cases h:i<0
   .simp only[h,if_true] <;> lia
   .simp  [h,if_false] <;> lia
 .cases hi with
  | none=>simp[sliceBounds,HT.sIx]
  | some i=>
   simp  [sliceBounds,HT.sIx,Option.getD_none,show(1:Int)>0 by decide,if_true]
   by_cases h:i<0
   .simp only[h,if_true] <;> lia
   .simp  [h,if_false] <;> lia
theorem bF2 (its:AH)(lo hi:Option Int):slicePick its.toArray lo hi none=((its.drop (HT.sIx its.length 0 lo)).take (HT.sIx its.length its.length hi-HT.sIx its.length 0 lo)).toArray:=by
 obtain⟨h1,e,j⟩:=bN6 lo hi its.toArray.size;unfold slicePick;rw[h1,e,j];simp only[sliceRange_one,pick_run,Ab2] <;> rfl
def dS5 (K:Frag):V->Option Int->Option Int->Hp->VK->Prop:=λx lo hi H Q=>∃a xs,x=.ref a/\SqL K H a xs/\∀p,H p=none->Q (.ref p) (upd H p (.lst (bZ2 xs lo hi)))
theorem bP7:SlR X (dS5 X.K):=by
 intro M s σ H x v R D lo hi sl Q I J c pl U h;obtain⟨a,xs,rfl,m,q⟩:=h;cases J;obtain⟨its,r,j,Y⟩:=I.list m;have e:=r.length;refine⟨"list",_,slot_list_getitem.lookup,j.isList.typeIs,?_⟩;refine wpAny_getItem_list_slice j.isList c pl U .none SS ?_ (by rw[Ab2] <;> simp_all)
 rw[bF2,<- e];refine⟨.ref s.heap.objs.size,_,I.laid (λb ob q=>Aa6 _ q) (Aa7 _) ?_,rfl,q _ (I.hok.fresh (Aa7 _))⟩
 exact⟨Aq (aU1 xs lo hi) Y,_,0,(r.drop (HT.sIx xs.length 0 lo)).take (HT.sIx xs.length xs.length hi-HT.sIx xs.length 0 lo),Ac3 _ rfl⟩
theorem M3:Q4 X (.builtin "len") (λxs H Q=>∃p ys,xs=[.ref p]/\(SqL X.K H p ys\/SqT X.K H p ys)/\Q (.int ys.length) H):=by
 intro Y s σ H xs J Q I r h;obtain⟨p,ys,rfl,hq,q⟩:=h;obtain⟨u,rfl,m⟩:=U4 r;cases m;have U:=aT1;rcases hq with hq | hq
 .obtain⟨its,j,pl,c⟩:=I.list hq;have e:=j.length;exact Calls.call_len_list pl.isList (by simp only[Ab2] <;> lia) ⟨.int ys.length,H,I.tok _,⟨s.toks+1,by rw[Ab2,e]⟩,q⟩
 .obtain⟨its,j,pl,c⟩:=I.tuple hq;have e:=j.length;exact len_tuple pl (by simp only[Ab2] <;> lia) ⟨.int ys.length,H,I.tok _,⟨s.toks+1,by rw[Ab2,e]⟩,q⟩
theorem bO6:Q4 X (.type "list") (λxs H Q=>∃p ys,xs=[.ref p]/\(SqL X.K H p ys\/SqT X.K H p ys)/\∀l,H l=none->Q (.ref l) (upd H l (.lst ys))):=by
 intro D s σ H xs B Q I r h;obtain⟨p,ys,rfl,hq,q⟩:=h;obtain⟨u,rfl,F⟩:=U4 r;cases F;have fin:∀(its:AH),Vals ys its->ys.length<=sizeLine->∀(j:Heap) (c:Nat),(∀b R,s.heap.get? b=some R->j.get? b=some R) ->
   j.get? s.heap.objs.size=some {cls:=.type "list",dict:=none,data:=.seq its.toArray c,slots := #[]}->EP X D σ Q (.ref s.heap.objs.size) {s with heap:=j}:=λits m U j c kp e=>
  ⟨.ref s.heap.objs.size,_,I.laid kp (Aa7 _) (show ObjOk X.prog X.w _ j _ (.lst ys) from⟨U,its,c,m,e⟩),rfl,q _ (I.hok.fresh (Aa7 _))⟩
 rcases hq with hq | hq
 .obtain⟨its,m,pl,U⟩:=I.list hq;have Y:=m.length;obtain⟨o,ho,J,n,M⟩:=pl.isList;exact call_list_seq p (.inl rfl) ho J M (λj c kp e=>fin its m U j c kp e) (by simp  [Ab2] <;> simp_all)
 .obtain⟨its,m,pl,U⟩:=I.tuple hq;have Y:=m.length;obtain⟨o,ho,J,n,M⟩:=pl;exact call_list_seq p (.inr rfl) ho J M (λj c kp e=>fin its m U j c kp e) (by simp  [Ab2] <;> simp_all)
theorem Q5:Q4 X (.type "tuple") (λxs H Q=>∃p ys,xs=[.ref p]/\((SqL X.K H p ys/\∀l,H l=none->Q (.ref l) (upd H l (.tup ys)))\/(SqT X.K H p ys/\Q (.ref p) H))):=by
 intro R s σ H xs F Q I r h;obtain⟨p,ys,rfl,h⟩:=h;obtain⟨u,rfl,D⟩:=U4 r;cases D;rcases h with⟨c,q⟩ | ⟨c,q⟩
 .obtain⟨its,m,pl,J⟩:=I.list c;have U:=m.length;refine call_tuple_list pl.isList (λj kp=>?_) (by simp  [Ab2] <;> simp_all)
  have Y:=I.kept (t':=s.toks) kp
  have M:Inv X R σ (upd H j.objs.size (.tup ys)) {s with heap:=j.push {cls:=.type "tuple",data:=.seq its.toArray}}:=
   Y.laid (λb o e=>Aa6 _ e) (Aa7 _) (show ObjOk X.prog X.w _ _ _ (.tup ys) from⟨J,its,m,Tup0.nw _ _ _⟩)
  exact⟨.ref j.objs.size,_,M,rfl,q _ (Y.hok.fresh (Aa7 _))⟩
 .obtain⟨its,m,pl,J⟩:=I.tuple c;exact call_tuple_same pl ⟨.ref p,H,I,rfl,q⟩
def tyV (K:Frag)(T:String)(x:V)(H:Hp):Prop:=match x with
 | .str _=>T = "str"
 | .int _=>T = "int"
 | .ref p=>(T = "list" /\ ∃xs,SqL K H p xs)\/(T = "tuple" /\ ∃xs,SqT K H p xs) \/
   (T = "dict" /\ ((∃kvs,H p=some (.dK kvs))\/∃kvs,H p=some (.dT kvs)))\/(T = "set" /\ ∃S n,H p=some (.set S n))
 | _=>False
theorem cX1 {σ:St}(I:Inv X aA σ H s)(r:RelV x v)(ty:tyV X.K T x H) :
  s.TypeIs v T/\∀a,v=.ref a->∃ob,s.heap.get? a=some ob/\ob.dict=none:=by
 cases x with
 | str z=>
  obtain⟨t,rfl⟩:=r;cases (show T = "str" from ty)
  exact⟨typeIs_str s z t,λ_ e=>nomatch e⟩
 | int i=>
  obtain⟨t,rfl⟩:=r;cases (show T = "int" from ty)
  exact⟨typeIs_int s i t,λ_ e=>nomatch e⟩
 | ref p=>
  cases r
  rcases ty with⟨rfl,xs,U⟩ | ⟨rfl,xs,U⟩ | ⟨rfl,m⟩ | ⟨rfl,S,n,m⟩
  .obtain⟨its,_,pl,_⟩:=I.list U;refine⟨pl.isList.typeIs,λa e=>?_⟩
   cases e
   obtain⟨o,n,e,c,R,_⟩:=pl;exact⟨o,e,R⟩
  .obtain⟨its,_,Q,_⟩:=I.tuple0 U;obtain⟨o,h1,J,_,M⟩:=Q;refine⟨⟨o,h1,J⟩,λa e=>?_⟩
   cases e
   exact⟨o,h1,M⟩
  .have z:∃o,s.heap.get? p=some o/\o.ExactDict:=by
    rcases m with⟨kvs,m⟩ | ⟨kvs,m⟩
    .obtain⟨_,_,_,_,o,_,_,e,j,_⟩:=I.hok p _ m;exact⟨o,e,j⟩
    .obtain⟨_,_,_,_,o,_,_,e,j,_⟩:=I.hok p _ m;exact⟨o,e,j⟩
   obtain⟨o,e,j⟩:=z;refine⟨⟨o,e,j.1⟩,λa Y=>?_⟩
   cases Y
   exact⟨o,e,j.2.1⟩
  .obtain⟨o,_,_,_,e,j,_⟩:=I.hok p _ m;refine⟨⟨o,e,j.1⟩,λa Y=>?_⟩
   cases Y
   exact⟨o,e,j.2.1⟩
 | _=>exact False.elim ty
def dV5 (K:Frag)(T:String)(r:V->List V->Hp->VK->Prop)(to:TE):TE:=λσ H Q=>to σ H λx H1=>tyV K T x H1/\r x [] H1 Q
def tBM (K:Frag)(T:String)(r:V->List V->Hp->VK->Prop)(to:TE)(t:TA):TE:=λσ H Q=>to σ H λx H1=>tyV K T x H1/\t σ H1 λxs H2=>r x xs H2 Q
variable {o e:Expr}{es:AN}{to:TE}{t:TA}{name:Str}{apos cpos:Pos}{T id:String}{r:V->List V->Hp->VK->Prop}
theorem bE1 (pa:PlainAttrs T)(slot:Slot T name id)(m:typeOf (.builtin id)=pure (.type "method_descriptor"))(R:MtR X id r)(ho:PE X o to)
  (j:attributeBase o name X.env (eval o X.env)=eval o X.env:=by rfl) (c:(apos.endLine==cpos.line)=true:=by rfl):PE X (.Call (.Attribute o name apos) [] [] cpos) (dV5 X.K T r to):=by
 refine⟨?_⟩;intro U s σ H Q I h;refine wpAny_Call_method0_late j c (thn (ho U s σ H _ I h) λv F pz=>?_)
 obtain⟨x,H1,Y,J,ty,D⟩:=pz;obtain⟨h1,M⟩:=cX1 Y J ty;exact⟨T,id,pa,slot,m,h1,M,Calls.callWith_builtin rfl (PySem.evalArgs_none (R U F σ H1 x [] v [] Q Y J .nil D))⟩
theorem G7 (pa:PlainAttrs T)(slot:Slot T name id)(J:typeOf (.builtin id)=pure (.type "method_descriptor"))(hm:MtR X id r)(ho:PE X o to)(ha:PA X (e::es) t)
  (c:attributeBase o name X.env (eval o X.env)=eval o X.env:=by rfl)
  (Y:((backTo cpos (starEach (e::es) X.env)).all (λx => !x.1)&&(backToKw cpos (keywordEach [] X.env)).all (λx=>x.1.isSome)
   && decide ((e::es).length+([]:List Keyword).length+(if([]:List Keyword).isEmpty then 0 else 1)<30))=true:=by rfl)
  (m:(apos.endLine==cpos.line)=true:=by rfl) (hs:starEach (e::es) X.env=(false,eval e X.env)::starEach es X.env:=by rfl) (j:(backTo cpos (starEach es X.env)).any (·.1)=false:=by rfl) :
  PE X (.Call (.Attribute o name apos) (e::es) [] cpos) (tBM X.K T r to t):=by
 refine⟨?_⟩;intro U s σ H Q I h;refine wpAny_Call_method_late c Y m rfl (thn (ho U s σ H _ I h) λv s1 pz=>?_)
 obtain⟨x,H1,M,D,ty,q1⟩:=pz;obtain⟨h1,P⟩:=cX1 M D ty;refine⟨T,id,pa,slot,J,h1,P,?_⟩;have R:=ha cpos U s1 σ H1 _ M q1;rw[hs]at R ⊢;exact Calls.callWith_builtin (by show(false||(backTo cpos (starEach es X.env)).any (·.1))=false;rw[j] <;> rfl) (Calls.evalArgs_plain (thn R λus s2 ⟨vs,F,B,r2,q2⟩=>hm U s2 σ F x vs v us Q B D r2 q2))
end
def MtM (X:Cx)(id:String)(r:V->List V->Hp->VK->Prop):Prop:=
 ∀(aA:Ee) (s:Shared) (σ:St) (H:Hp) (x:V) (xs:List V) (v:Value) (us:AH) (Q:VK),Inv X aA σ H s->RelV x v->Vals xs us->r x xs H Q ->
  wpAny (model X.prog X.w) X.A (call (.builtin id) (v::us)) (EP X aA σ Q) X.xe s
theorem Vals.one:∀{x:V} {us:AH},Vals [x] us->∃u,us=[u]/\RelV x u
 | _,_,.cons r .nil=>⟨_,rfl,r⟩
theorem Vals.zero:∀{us:AH},Vals [] us->us=[]
 | _,.nil=>rfl
theorem Vals.dropLast (h:Vals xs us):Vals xs.dropLast us.dropLast:=by
 induction h with
 | nil=>exact .nil
 | cons r t e=>
  cases t with
  | nil=>exact .nil
  | cons q j=>exact .cons r e
theorem Vals.eraseIdx:∀{xs:List V} {us:AH} (i:Nat),Vals xs us->Vals (xs.eraseIdx i) (us.eraseIdx i)
 | _,_,_,.nil=>.nil
 | _,_,0,.cons _ t=>t
 | _,_,i+1,.cons r t=>.cons r (Vals.eraseIdx i t)
theorem Vals.rep (h:Vals xs us):∀k:Nat,Vals (List.replicate k xs).flatten (List.replicate k us).flatten
 | 0=>.nil
 | k+1=>by
  exact Vals.append h (Vals.rep h k)
theorem cC9 {α:Type}(l:List α):l.eraseIdx (l.length-1)=l.dropLast:=by
 induction l with
 | nil=>rfl
 | cons a r j=>
  cases r with
  | nil=>rfl
  | cons b r=>
   have e:(a::b::r).length-1=((b::r).length-1)+1:=by
    have h1:(a::b::r).length=r.length+2:=rfl
    have c:(b::r).length=r.length+1:=rfl
    assumption
   rw[e,List.eraseIdx_cons_succ,j]
   all_goals rfl
theorem bG0 {α:Type}:∀(l:List α) (i:Nat),(l.eraseIdx i).length<=l.length
 | [],_=>Aa7 _
 | _::_,0=>Nat.le_succ _
 | _::r,i+1=>Nat.succ_le_succ (bG0 r i)
theorem bG8 (its:AH):∀(k:Nat) (acc:AH),
  List.foldl (λx1 x2=>x1++x2) acc.toArray (List.replicate k its.toArray)=(acc++(List.replicate k its).flatten).toArray
 | 0,acc=>by simp
 | k+1,acc=>by
  have e:acc.toArray++its.toArray=(acc++its).toArray:=by simp
  have j:(acc++its)++(List.replicate k its).flatten=acc++(List.replicate (k+1) its).flatten:=by
   rw[Cu,Cs,Ad7]
  rw[<- j,<- bG8 its k (acc++its),<- e,Cu,List.foldl_cons]
section
theorem Inv.lset {its its':AH}(I:Inv X aA σ H s)(j:H l=some (.lst xs))
  (e:s.heap.get? l=some {cls:=.type "list",data:=.seq its.toArray n}) (m:f its.toArray=its'.toArray) (U:Vals ys its') (J:ys.length<=sizeLine) :
  Inv X aA σ (upd H l (.lst ys)) {s with heap:=s.heap.update l (Obj.mapSeq f),toks:=t'}:=by
 have q:=PySem.IsL.update e f
 rw[m]at q;exact I.write (x:=l) (e:=l) (by rw[j];exact trivial) (.inl rfl) (λM u c Y=>(Dr s.heap (Obj.mapSeq f) (Ne.symm c)).trans Y) ⟨_,q⟩ ⟨J,its',_,U,q⟩
theorem Inv.lnew (I:Inv X aA σ H s)(e:Vals ys its)(j:ys.length<=sizeLine) :
  Inv X aA σ (upd H s.heap.objs.size (.lst ys)) {s with heap:=s.heap.push {cls:=.type "list",data:=.seq its.toArray},toks:=t'}:=
 I.laid (λ_ _ q=>Aa6 _ q) (Aa7 _) ⟨j,its,0,e,Ac3 _ rfl⟩
theorem Inv.fresh (I:Inv X aA σ H s):H s.heap.objs.size=none:=I.hok.fresh (Aa7 _)
theorem Inv.lstM (I:Inv X aA σ H s)(j:H l=some (.lst xs)):xs.length<=sizeLine/\∃(its:AH) (n:Nat),Vals xs its/\xs.length=its.length/\s.heap.get? l=some {cls:=.type "list",data:=.seq its.toArray n}:=by
 obtain⟨z,its,n,r,e⟩:=I.hok l _ j;exact⟨z,its,n,r,r.length,e⟩
theorem bX0 (h:n<=sizeLine):Builtin.List.listTooLong n=false:=by
 exact Aj LL
end
section
def aN0:V->List V->Hp->VK->Prop:=λx vs H Q=>∃l xs y,x=.ref l/\vs=[y]/\H l=some (.lst xs)/\xs.length<sizeLine/\Q .non (upd H l (.lst (xs++[y])))
theorem D3:MtM X "list.append" aN0:=by
 intro U s σ H x vs v R Q I Y m h;obtain⟨l,xs,y,rfl,rfl,j,M,q⟩:=h;cases Y;obtain⟨u,rfl,c⟩:=m.one;obtain⟨z,its,n,r,J,e⟩:=I.lstM j;refine call_meets F.slot_list_append ⟨_,e,rfl⟩ F.entry_list_append (F.args_list_append_2 _ _) (PySem.list_append l its.toArray n u (by rw[Ab2];simp_all)) ⟨e,?_⟩
 refine⟨.non,_,I.lset j e SS (r.append (.cons c .nil)) ?_,rfl,q⟩
 rw[Ab7,List.length_singleton]
 assumption
def cH3:V->List V->Hp->VK->Prop:=λx vs H Q=>∃l b xs zs,x=.ref l/\vs=[.ref b]/\H l=some (.lst xs)/\H b=some (.lst zs)/\xs.length+zs.length<=sizeLine/\Q .non (upd H l (.lst (xs++zs)))
theorem aF4:MtM X "list.extend" cH3:=by
 intro aA s σ H x vs v us Q I rx P h;obtain⟨l,b,xs,zs,rfl,rfl,Y,J,hz,q⟩:=h;cases rx;obtain⟨u,rfl,B⟩:=P.one;cases B;obtain⟨z,its,n,r,hl,e⟩:=I.lstM Y;obtain⟨z2,j,R,D,M,U⟩:=I.lstM J;have m:its.toArray.size+j.toArray.size<=sizeLine:=by rw[Ab2,Ab2];simp_all
 have c:¬(!its.toArray.isEmpty&&Builtin.List.listTooLong (its.toArray.size+j.toArray.size))=true:=by
  rw[bX0 m,Bool.and_false];exact Ao
 refine call_meets F.slot_list_extend ⟨_,e,rfl⟩ F.entry_list_extend (F.args_list_extend_2 _ _)
  (AutoSeq1.list_extend_list_list_0 l its.toArray n b j.toArray R c (by rw[Ab2];simp_all) LL) ⟨e,U,?_⟩
 refine⟨.non,_,I.lset Y e SS (r.append D) ?_,rfl,q⟩
 rw[Ab7];omega
def dS3:V->List V->Hp->VK->Prop:=λx vs H Q=>∃l xs y,x=.ref l/\vs=[]/\H l=some (.lst xs)/\xs[xs.length-1]? = some y/\Q y (upd H l (.lst xs.dropLast))
theorem bC5:MtM X "list.pop" dS3:=by
 intro B s σ H x vs v P Q I D R h;obtain⟨l,xs,y,rfl,rfl,m,J,q⟩:=h;cases D;have j:=R.zero;subst j;obtain⟨z,its,n,r,Y,e⟩:=I.lstM m;obtain⟨u,U,M⟩:=r.get J;have c:its.toArray[its.toArray.size-1]? = some u:=by
  show its.toArray[its.length-1]? = some u
  rw[<- Array.getElem?_toList,<- Y];exact U
 refine call_meets F.slot_list_pop ⟨_,e,rfl⟩ F.entry_list_pop (F.args_list_pop_1 _) (MeetsSeq.list_pop_last l its.toArray n u c (by rw[Ab2];simp_all)) ⟨e,?_⟩
 refine⟨y,_,I.lset m e ?_ r.dropLast ?_,M,q⟩
 .rw[Ab2,List.eraseIdxIfInBounds_toArray,cC9]
 .rw[List.length_dropLast]
  lia
def cS5:V->List V->Hp->VK->Prop:=λx vs H Q=>∃l xs i k y,x=.ref l/\vs=[.int i]/\H l=some (.lst xs) /\ -(2^63)<=i/\i<2^63/\seqIndex? i xs.length=some k/\xs[k]? = some y/\Q y (upd H l (.lst (xs.eraseIdx k)))
theorem cT6:MtM X "list.pop" cS5:=by
 intro P s σ H x vs v us Q I B D h;obtain⟨l,xs,i,k,y,rfl,rfl,c,h1,m,Y,M,q⟩:=h;cases B;obtain⟨u,rfl,R⟩:=D.one;obtain⟨t,rfl⟩:=R;obtain⟨z,its,n,r,U,e⟩:=I.lstM c;obtain⟨w,J,j⟩:=r.get M;refine call_meets F.slot_list_pop ⟨_,e,rfl⟩ F.entry_list_pop (F.args_list_pop_2 _ _)
  (MeetsSeq.list_pop_at l its.toArray n i t k w (fitsIndex_both h1 m) (by rw[Ab2,<- U];exact Y) (by rw[<- Array.getElem?_toList];exact J) (by rw[Ab2];simp_all)) ⟨e,?_⟩
 refine⟨y,_,I.lset c e ?_ (r.eraseIdx k) ?_,j,q⟩
 .rw[List.eraseIdxIfInBounds_toArray]
 .have:=bG0 xs k
  lia
def dY4:R2:=λx y H Q=>∃l k xs,x=.ref l/\y=.int k/\H l=some (.lst xs) /\ -(2^63)<=k/\k<2^63/\xs.length*k.toNat<=sizeLine /\
 ∀p,H p=none->Q (.ref p) (upd H p (.lst (List.replicate k.toNat xs).flatten))
theorem dG7 {α:Type}(xs:List α)(k:Nat):(List.replicate k xs).flatten.length=k*xs.length:=by
 induction k with
 | zero=>simp
 | succ k e=>rw[Cu,Cs,Ab7,e,Nat.succ_mul,Nat.add_comm]
theorem cS8:OpR X (binaryOp .Mult) dY4:=by
 intro aA s σ H x y v u Q I rx ry h;obtain⟨l,k,xs,rfl,rfl,B,h1,D,M,q⟩:=h;cases rx;obtain⟨t,rfl⟩:=ry;obtain⟨z,its,n,r,P,e⟩:=I.lstM B;have U:its.toArray.size*k.toNat<=sizeLine:=by rw[Ab2,<- P];exact M
 have c:¬its.toArray.size*k.toNat>(2^63-1) / 8:=by
  have:sizeLine<=(2^63-1) / 8:=by decide
  lia
 have Y:¬(!Builtin.List.listFitsIndex k)=true:=by
  rw[fitsIndex_both h1 D];exact Ao
 have j:¬Builtin.List.listTooLong (its.toArray.size*k.toNat)=true:=by
  rw[bX0 U];exact Ao
 have J:List.foldl (λx1 x2=>x1++x2) #[] (List.replicate (if its.toArray.isEmpty=true then 0 else k.toNat) its.toArray)=(List.replicate k.toNat its).flatten.toArray:=by
  have R:=λm=>by
   have:=bG8 its m []
   rw[List.nil_append]at this;exact this
  rw[R];cases its with
  | nil=>simp
  | cons a r'=>rw[Ab SS]
 refine wpAny_binaryOp_repeat_ref DD ⟨_,e,rfl⟩ (λs'=>typeIs_int s' k t) noFill_list_mul F.fills_int_mul F.slot_int_rmul repeat_list F.slot_int_index.lookup
  (call_meets F.slot_int_rmul (typeIs_int s k t) F.entry_int_rmul (F.args_int_rmul_2 _ _) (int___rmul___int_list k t l its.toArray n)
   ⟨e,rfl,⟨_,e,rfl⟩,call_meets F.slot_list_mul ⟨_,e,rfl⟩ F.entry_list_mul (F.args_list_mul_2 _ _) (AutoListH.list___mul___list_int_3 l its.toArray n k t Y c j) ⟨e,?_⟩⟩)
 rw[J];exact⟨.ref _,_,I.lnew (r.rep k.toNat) (by rw[dG7,Nat.mul_comm];exact M),rfl,q _ I.fresh⟩
end
end L2
namespace Att
open PySem PySem.W PySem.Calls PyProof.Rows
theorem aV5:∀(ns:AF) (vs:AH),WellAll P h vs (ns.map WData.int)->IntsAre vs ns:=by
 intro ns;induction ns with
 | nil=>
  intro vs w;cases w;exact .nil
 | cons n ns ih=>
  intro vs w;cases w with
  | cons a b=>
   cases a
   exact .cons _ _ (ih _ b)
theorem cM2 {l:OpenLaw}(R:l.most=some n)
  (e:l.row.toRowW.claim.pre args=true) (X:WellAll P h vals args) :
  ∃a vs ns,vals=[Value.ref a]/\args=[WData.list (ns.map WData.int)]/\h.get? a=some {cls:=.type "list",data:=.seq vs.toArray}/\IntsAre vs ns/\ns.length<=n:=by
 have Y:=(pre_splitW e).1
 have M:l.pre.holds [] {args:=args}=true:=(pre_splitW e).2
 obtain⟨d,r,rfl,h1,U⟩:=hasAllW_cons Y;obtain rfl:=hasAllW_nil U;obtain⟨xs,rfl,J⟩:=hasW_list h1;obtain⟨ns,rfl⟩:=items_int J;have c:ns.length<=n:=by
  have s:(WTm.not (.lt (.lit (.int n)) (.len (.arg 0)))).holds [] {args:=[.list (ns.map .int)]}=true:=by
   have s:=(holds_andW M).1
   rw[R]at s;exact s
  have m:=condW_of s (w_not (w_lt w_lit (w_len_list (w_arg rfl))))
  rw[Aa3]at m;refine Nat.le_of_not_lt λq=>?_
  have Q:n<(ns.length:Int):=by simp[*]
  first
   | (rw[Am Q]at m;exact absurd m DD)
   | (omega)
 cases X with
 | cons D F=>
  cases F
  cases D with
  | list ho j=>exact⟨_,_,ns,rfl,rfl,ho,aV5 ns _ j,c⟩
theorem cM1 (l:OpenLaw)(args:List WData):l.row.toRowW.claim.post args (.bool true) args=true:=
 postW_of
  (show WShape.has [] (.bool true) .bool=true by first | rfl | decide | simp[WShape.has,WShape.arms,WShape.armsAll])
  (show(WTm.eq .res (.lit (.bool true))).value [] {args:=args,res:=some (.bool true),after:=args}=some (.bool (true==true)) from w_eq_bool (w_res rfl) w_lit) rfl
theorem bU2 {l:OpenLaw}
  (hn:l.most=some n) (X:d.params.defaults=[])
  (call:∀(w:World) (s₀ s₁:Shared) (mg mb:Str->Option Value) (fa:Addr) (o:Obj) (pm cd doc:Value) (a:Addr) (vs:AH) (ns:AF),
   Ground q loose [] XP w s₀ mg mb s₁.heap->YP w s₁.heap ->
   s₁.heap.get? fa=some o->o.data=.func (docDef d.name d.params d.body d.scope pm cd doc)->s₁.heap.CodeRec cd d.name->mg d.name=some (.ref fa) ->
   s₁.heap.get? a=some {cls:=.type "list",data:=.seq vs.toArray}->IntsAre vs ns->ns.length<=n->s₁.gens = #[] ->
   codeAny (model l.prog w) callerA (.call (.ref fa) ⟨[.ref a],[]⟩) (λr s'=>r=.ok (.ret (.bool true))/\OldK s₁.heap s'.heap/\s'.os=s₁.os/\AllBare s'.gens) s₁) :
  WalkO q loose XP YP l.row.toRowW d [] (λf vs=>PySem.call f vs):=by
 intro w s₀ s₁ mg mb G Y fa o pm cd doc F kV ho hd m R U hg M D as s Q hrd J hlo;obtain rfl:F=.none:=Dflts.none R X;obtain rfl:kV=.none:=Dflts.noKw R;obtain⟨a,vs,ns,rfl,rfl,c,e,j⟩:=cM2 hn s J;refine enter_call (codeAny_mono (call w s₀ s₁ mg mb fa o pm cd doc a vs ns G Y ho (fd_plain hd) m U c e j hg) λr s' hq=>?_)
 obtain⟨rfl,B,P,h4⟩:=hq;exact⟨.inl ⟨.bool true,.bool true,[],rfl,λ_=>rfl,.bool true,cM1 l _,λ_=>⟨List.Pairwise.nil,λ_ hm=>(nomatch hm)⟩⟩,B,P,h4⟩
section
def cA8 (h:Heap):Heap:={h with objs := #[]}
theorem U6 (h:Heap)(b:Addr):(cA8 h).get? b=none:=by
 cases e:(cA8 h).get? b with
 | none=>rfl
 | some o=>exact absurd (Ab3 e) (Nat.not_lt_zero _)
theorem cX8 (n:h.Ns L m):Fr (cA8 h) L h m:=
 ⟨n,λb o e=>(by cases e),Br _⟩
end
end Att
namespace L2
open PySem PySem.Spec PyProof.Rows
theorem N9:∀{vs:AH} {ns:AF},IntsAre vs ns->Vals (ns.map V.int) vs
 | _,_,.nil=>.nil
 | _,_,.cons n t h=>.cons ⟨t,rfl⟩ (N9 h)
def dS2 (H:Hp):Prop:=∀b,H b=none\/∃o xs,H b=some (.frz o (.lst xs))
theorem cV4 {K:Frag}
  (KX:K.In s₁.heap) (Q:s₁.heap.Ns mainGlobals mg) (c:s₁.heap.Ns builtinsNs mb) (hbb:∀x:Str,x≠"__name__" -> mb x=bootBuiltins x) (R:s₁.heap.NoLimit) (hg:s₁.gens = #[])
  (ha:s₁.heap.get? a=some {cls:=.type "list",data:=.seq vs.toArray}) (hi:IntsAre vs ns) (hl:ns.length<=sizeLine) (hr:Room k callerA)
  (F:∀base:Heap,K.In base->base.Ns mainGlobals mg->J6 P w K mg base CX k fa fd [x] sp) (U:∀(s:Shared) (u:Value),BindsTo s fd ⟨[u],[]⟩ [(x,u)])
  (hsp:∀H:Hp,dS2 H->SqL K H a (ns.map V.int)->sp [.ref a] H (λv _=>v=.bl true) λ_ _ _=>False)
  (hCX:∀H e s',CX [] H s₁ (λ_ _ _=>False) e s'->False) :
  codeAny (model P w) callerA (.call (.ref fa) ⟨[.ref a],[]⟩) (λr s'=>r=.ok (.ret (.bool true))/\OldK s₁.heap s'.heap/\s'.os=s₁.os/\AllBare s'.gens) s₁:=by
 have rv:=N9 hi
 have S7:=hi.length
 have X:∀H:Hp,dS2 H->SqL K H a (ns.map V.int)->HOk P w H s₁.heap->(∀b,H b≠none->b=a)->(H a≠none->K.lookup a=none) ->
   codeAny (model P w) callerA (.call (.ref fa) ⟨[.ref a],[]⟩) (λr s'=>r=.ok (.ret (.bool true))/\OldK s₁.heap s'.heap/\s'.os=s₁.os/\AllBare s'.gens) s₁:=by
  intro H hO hS D hA hK;have j:∀{b:Addr} {o:Obj},s₁.heap.get? b=some o->H b=none->(bY4 s₁.heap H).get? b=some o:=λe n=>dA7 e n
  have noA:∀{b:Addr} {o:Obj} {es:Array DictEntry} {ep:Nat},s₁.heap.get? b=some o->o.data=.dict es ep->H b=none:=λ{b o es ep} e d=>by
   cases q:H b with
   | none=>rfl
   | some u=>
    have e':=hA b (by rw[q];simp)
    subst e';rw[ha]at e;cases e;have d':=d;cases d'
  have Y:∀{b:Addr} {m:Str->Option Value},s₁.heap.Ns b m->(bY4 s₁.heap H).Ns b m:=λ{b m} ⟨o,es,ep,e,d,r⟩=>⟨o,es,ep,j e (noA e d),d,r⟩
  have M:=λb o e=>j (KX b o e) (by
   cases q:H b with
   | none=>rfl
   | some u=>
    have e':=hA b (by rw[q];simp)
    subst e';rw[hK (by rw[q];simp)]at e;cases e)
  have hM:Mod K mg (bY4 s₁.heap H):=⟨M,Y Q,⟨mb,Y c,hbb⟩,let ⟨mc,h1,h2⟩:=R;⟨mc,Y h1,h2⟩⟩
  have e0:dD9 P w K mg (bY4 s₁.heap H) callerA [] s₁ H:=⟨rfl,hM,λb o e=>dJ8 e,Nat.le_of_eq (cO0 _ _),trivial,λb c=>absurd (show b∈([]) from c) SS,D,.of_eq hg⟩
  refine codeAny_mono ((F _ M (Y Q)).run callerA [] s₁ H ⟨[.ref a],[]⟩ [.ref a] [.ref a] _ _ hr e0 (U s₁ (.ref a)) (.cons rfl .nil) (hsp H hO hS)) λr s' h=>?_
  cases r with
  | error e=>exact(hCX H e s' h).elim
  | ok fl=>
   cases fl with
   | next=>exact False.elim h
   | brk=>exact False.elim h
   | cont=>exact False.elim h
   | ret u=>
    obtain⟨v,H',os,J,un,B,r',q⟩:=h;have q':=q;subst q';obtain rfl:u=Value.bool true:=r';refine⟨rfl,OldK.of_keep λb o e=>?_,os,J⟩
    cases q:H b with
    | none=>exact un.keep b o e q (by intro z;exact absurd (show b∈([]) from z) SS) SS
    | some u=>
     rcases hO b with z | ⟨ob,xs,z⟩
     .rw[q]at z;cases z
     .have z2:=un.frzs b ob _ z
      obtain⟨e1,_⟩:=D b _ z;obtain⟨e2,_⟩:=B b _ z2;rw[e]at e1;cases e1;exact e2
 cases hk:K.lookup a with
 | some o=>
  have e:=KX a o hk
  rw[ha]at e;cases e;refine X (λ_=>none) (λ_=>.inl rfl) (.inr ⟨_,vs.toArray,_,hk,rfl,rfl,rfl,by rw[Ab2,S7];exact hl,by simpa using rv⟩) (λb u z=>by have z':=z;cases z') (λb z=>absurd rfl z) λz=>absurd rfl z
 | none=>
  refine X (λb=>if b=a then some (.frz {cls:=.type "list",data:=.seq vs.toArray} (.lst (ns.map V.int))) else none) (λb=>?_) (.inl (.inr ⟨{cls:=.type "list",data:=.seq vs.toArray},Ac rfl⟩)) (λb u z=>?_) (λb z=>?_) λ_=>hk
  .by_cases c:b=a
   .exact .inr ⟨_,_,Ac c⟩
   .exact .inl (Ab c)
  .by_cases c:b=a
   .have z':=(Ac c).symm.trans z
    cases z'
    subst c;exact⟨ha,by rw[Aa3];exact hl,vs,_,rv,ha⟩
   .have z':=(Ab c).symm.trans z
    cases z'
  .by_cases c:b=a
   .exact c
   .exact absurd (Ab c) z
abbrev KOf {K:Frag}{h:Heap}(_:K.In h):Frag:=K
theorem dJ6 {l:PySem.W.OpenLaw}{K:Params->Frag}{CX:World->CXT}{sp:World->Sp}
  (hn:l.most=some n) (M:n<=sizeLine) (U:d.params.defaults=[]) (hr:Room k callerA)
  (hY:∀(w:World) (h:Heap),YP w h->(K w.params).In h)
  (F:∀(w:World) (mg:Str->Option Value) (fa:Addr) (h:Heap),(K w.params).In h->h.Ns mainGlobals mg->mg d.name=some (.ref fa) ->
   ∃fd:FuncData,(∀(s:Shared) (u:Value),BindsTo s fd ⟨[u],[]⟩ [(x,u)]) /\
    ∀base:Heap,(K w.params).In base->base.Ns mainGlobals mg->J6 l.prog w (K w.params) mg base (CX w) k fa fd [x] (sp w))
  (R:∀(w:World) (H:Hp) (a:Addr) (ns:AF),ns.length<=n->dS2 H->SqL (K w.params) H a (ns.map V.int)->sp w [.ref a] H (λv _=>v=.bl true) λ_ _ _=>False)
  (X:∀(w:World) (H:Hp) (s:Shared) (e:Value) (s':Shared),CX w [] H s (λ_ _ _=>False) e s'->False) :
  PySem.W.WalkO q loose XP YP l.row.toRowW d [] (λf vs=>PySem.call f vs):=by
 refine Att.bU2 hn U λw s₀ s₁ mg mb fa o pm cd D a vs ns G Y ho hd hcd J m c j hg=>?_
 have Q:=hY w _ Y
 obtain⟨fd,hb,B⟩:=F w mg fa _ Q G.T.g J;exact cV4 Q G.T.g G.T.b G.T.builtins G.T.nolimit hg m c (Aq j M) hr B hb (λH P hS=>R w H a ns j P hS) λH e s'=>X w H s₁ e s'
def aA1 (s:Stmt):Arguments:=match s with
 | .FunctionDef _ a _ _ _ _ _ _ _ _=>a
 | _=>{posonlyargs:=[],args:=[],vararg:=none,kwonlyargs:=[],kw_defaults:=[],kwarg:=none,defaults:=[]}
def j8 (s:Stmt):List Stmt:=match s with
 | .FunctionDef _ _ b _ _ _ _ _ _ _=>b
 | _=>[]
def B3 (s:Stmt):Scope:=match s with
 | .FunctionDef _ _ _ _ _ _ sc _ _ _=>sc
 | _=>{kind:=.function,names:=[],isGenerator:=false,isCoroutine:=false}
abbrev CX0:CXT:=λ_ _ _ _ _ _=>False
abbrev E0:XK:=λ_ _ _=>False
theorem eE8:cD0 CX0 X E0:=λ_ _ _ _ _ _ _ h=>h.elim
structure Fun (K:Frag)(x qual:Str)(st:Stmt)(f:Addr)(fd:FuncData):Prop where
 ex:∃(oc:Value) (od:AL) (kV doc pm:Value) (an:AL) (cdv ct:Value) (osl:Array (Option Value)),
  fd=PySem.W.fnOf x qual (aA1 st) (j8 st) (B3 st) .none kV doc pm an cdv ct/\K.lookup f=some ⟨oc,od,.func fd,osl⟩/\PySem.W.codeIn K cdv qual=true
 kp:PySem.W.keepIn K (.ref f)=true
section
variable {P:Program}{w:World}{K:Frag}{mg:Str->Option Value}{base:Heap}
theorem Fun.ok {st:Stmt}(F:Fun K x qual st f fd)(S:B8 N ps (B3 st))(len:∀vs H Q E,sp vs H Q E->vs.length=ps.length)
  (e:∀(cdv:Value) (A:Around) (outer:List Env) (s:Shared) (H:Hp) (vs:List V) (Q:VK) (E:XK),Room k (A.deeper (envOfC qual (B3 st) s.heap.objs.size f cdv))->sp vs H Q E ->
   ∃t,PSs (cB3 CX0 P w K mg base N qual (B3 st) f cdv A outer s H E).nox (j8 st) t/\t {nx:=λ_ H'=>Q .non H',rt:=Q} (Y6 N vs) H):J6 P w K mg base CX0 (k+1) f fd ps sp:=by
 obtain⟨oc,M,kV,m,R,an,cdv,J,U,rfl,X,j⟩:=F.ex;refine eB1 X j S len λA outer s H vs Q E Y c=>?_
 obtain⟨t,h,q⟩:=e cdv A outer s H vs Q E Y c;exact⟨t,h.nox,q⟩
theorem Fun.binds {st:Stmt}(F:Fun K x qual st f fd)
  (h:∀(kV doc pm:Value) (an:AL) (cdv ct:Value) (us:AH),us.length=ps.length->bindArgs (PySem.W.fnOf x qual (aA1 st) (j8 st) (B3 st) .none kV doc pm an cdv ct) ⟨us,[]⟩=pure (ps.zip us)):Binds K fd ps []:=by
 obtain⟨oc,s,kV,doc,pm,an,cdv,ct,j,rfl,c,e⟩:=F.ex;exact .all (h kV doc pm an cdv ct)
theorem D4 {st:Stmt}{kV doc pm cdv ct:Value}(l:K.lookup f=some ⟨oc,od,.func (PySem.W.fnOf x qual (aA1 st) (j8 st) (B3 st) .none kV doc pm an cdv ct),osl⟩)
  (c:PySem.W.codeIn K cdv qual=true) (k:PySem.W.keepIn K (.ref f)=true):Fun K x qual st f (PySem.W.fnOf x qual (aA1 st) (j8 st) (B3 st) .none kV doc pm an cdv ct):=⟨⟨oc,od,kV,doc,pm,an,cdv,ct,osl,rfl,l,c⟩,k⟩
end
section
theorem pv (i:Nat){pos:Pos}(hN:X.N[i]? = some x:=by rfl)(c:Vis X.env.scope x:=by first | exact Or.inl rfl | exact Or.inr (Or.inl rfl) | exact Or.inr (Or.inr rfl))(j:(x==("__debug__" : Str))=false:=by decide)
  (e:(x==("__classdict__" : Str))=false:=by decide):PE X (.Name x pos) (F6 i):=dQ5 hN c j e
end
def Same (H H':Hp):Prop:=∀b o,H b=some o->H' b=some o
end L2
section
variable {a b c:Nat}
theorem zq1 (h:a<b:=by assumption):a<=b:=Cm h
theorem zq2 (h:a<b:=by assumption):a<b+1:=Dh h
theorem zq3 (h:a<=b:=by assumption):a<=b+1:=Nat.le_succ_of_le h
theorem zq4 (h:b<a:=by assumption):a≠b:=Nat.ne_of_gt h
theorem zq5 (h:a<b:=by assumption):a≠b:=Ab9 h
theorem zq6 {α:Sort u}{a b:α}(h:a≠b:=by assumption):b≠a:=Ne.symm h
theorem zq7 (h:3<=a:=by assumption)(e:b<3:=by decide):a≠b:=Nat.ne_of_gt (Ab8 e h)
theorem zq8 (h:3<=a:=by assumption)(e:b<3:=by decide):b≠a:=Ab9 (Ab8 e h)
theorem zq9 (h:¬a<b:=by assumption):b<=a:=Nat.le_of_not_lt h
theorem eG7 (h:¬a<=b:=by assumption):b<a:=Nat.lt_of_not_le h
theorem bC1 (h:a<=b:=by assumption)(e:a≠b:=by assumption):a<b:=Nat.lt_of_le_of_ne h e
theorem eH7 (h:a<=b:=by assumption)(e:b≠a:=by assumption):a<b:=Nat.lt_of_le_of_ne h (Ne.symm e)
theorem dZ5 (h:a<=b:=by assumption):¬b<a:=Nat.not_lt_of_le h
theorem eH9 (h:a<b:=by assumption):¬b<=a:=Nat.not_le_of_gt h
theorem cV0 (h:a<b:=by assumption)(e:b<=c:=by assumption):a<c:=Ab8 h e
theorem aH5 (h:a<b:=by assumption)(e:b<c:=by assumption):a<c:=Nat.lt_trans h e
theorem cN6 (h:a<=b:=by assumption)(e:b<c:=by assumption):a<c:=Dk h e
theorem bS3 (h:a<=b:=by assumption)(e:b<=c:=by assumption):a<=c:=Aq h e
theorem aH7 (h:a<=c:=by assumption)(e:c<b:=by decide):a<b:=Dk h e
theorem eH6 (h:c<=a:=by assumption)(e:b<=c:=by decide):b<=a:=Aq e h
theorem aK6 (h:a<=c:=by assumption)(e:c<=b:=by decide):a<=b:=Aq h e
theorem eH4 (h:a+1<=b:=by assumption):a<=b:=Nat.le_of_succ_le h
theorem eI1 (h:a<b:=by assumption):a+1<b+1:=Nat.succ_lt_succ h
theorem eG1 (h:a<=b:=by assumption):a<b+1:=Nat.lt_succ_of_le h
theorem dX7 (h:a<c:=by assumption)(e:c<=b:=by decide):a<b:=Ab8 h e
theorem eH8 (h:a<b:=by assumption):¬b<a:=Nat.not_lt_of_le (Cm h)
theorem dX1 (h:a<b+1:=by assumption):a<=b:=Nat.le_of_lt_succ h
theorem bM3 (h:a<b:=by assumption):0<b:=Dk (Br _) h
theorem eF6 (h:a<b:=by assumption):a+c<b+c:=Nat.add_lt_add_right h c
end
namespace L2
open PySem PySem.Spec PyProof.Rows
section
theorem bU0 (I:Nat->Shared->Prop)
  (turn:∀n s,I n s->wpAny (model prog w) A (pyNext it) (λr s₁=>match r with
   | none=>R (.ok .next) s₁
   | some v=>wpAny (model prog w) A (letOwnedTupleGo target it v) (λ_ s₁'=>wpAny (model prog w) A (assign target env v) (λ_ s₂ =>
     wpAny (model prog w) A (forIn ifs true λc r=>if r=true then do let ok <- isTrue c env (eval c env);pure (ForInStep.yield ok) else pure (ForInStep.yield r)) (λok s₃ =>
      if ok=true then wpAny (model prog w) A (eval elt env) (λx s₄ =>
       wpAny (model prog w) A (call (.builtin "list.append") [acc,x]) (λ_ s₅=>∃m,m<n/\I m s₅) (λ_ _=>False) s₄) (λ_ _=>False) s₃
      else ∃m,m<n/\I m s₃) (λ_ _=>False) s₂) (λ_ _=>False) s₁') (λ_ _=>False) s₁) (λ_ _=>False) s)
  (n:Nat) (h:I n s) :
  codeAny (model prog w) A (.compLoop (.ListComp elt [⟨target,iter,ifs,0⟩] scope pos) 0 it acc env) R s:=by
 refine codeAny_loop rfl I (λn s hI=>?_) n h
 refine wpAny_noted ?_;rw[compTurn_list];refine Aa (wpAny_standAt (Aa (wpAny_mono (turn n s hI) (λr s₁ Y=>?_) λ_ _ e=>e.elim)))
 cases r with
 | none=>exact Ae Y
 | some v=>
  refine Aa (wpAny_mono Y (λ_ s₁' j=>?_) λ_ _ e=>e.elim)
  refine Aa (wpAny_mono j (λ_ s₂ U=>Aa (wpAny_mono U (λok s₃ X=>?_) λ_ _ e=>e.elim)) λ_ _ e=>e.elim)
  cases ok with
  | false=>exact Ae ⟨rfl,X⟩
  | true=>
   exact Aa (Aa (wpAny_mono X (λx s₄ J=>Aa (wpAny_mono J (λ_ s₅ M=>Ae (Ae ⟨rfl,M⟩)) λ_ _ e=>e.elim)) λ_ _ e=>e.elim))
end
section
def cxC (X:Cx)(N':AJ)(scope:Scope)(cl:List (Str×Addr))(C:Addr)(ex:AM)(s:Shared)(H:Hp):Cx:=
 {X with N:=N',s₀:=s,H₀:=H,env:=compEnvC scope cl C X.env,outer:=X.stack,ex:=ex,fn:=λ_=>false,xe:=λ_ _=>False}
structure PIfs (X:Cx)(ifs:AN)(t:TT):Prop where
 mk ::
 run :
  ∀(aA:Ee) (s:Shared) (σ:St) (H:Hp) (Q:Bool->Hp->Prop),Inv X aA σ H s->t σ H Q ->
   wpAny (model X.prog X.w) X.A (forIn ifs true λc r=>if r=true then do let ok <- isTrue c X.env (eval c X.env);pure (ForInStep.yield ok) else pure (ForInStep.yield r)) (TP X aA σ Q) X.xe s
instance {X:Cx} {ifs:AN} {t:TT}:CoeFun (PIfs X ifs t) λ_=>
 (∀(aA:Ee) (s:Shared) (σ:St) (H:Hp) (Q:Bool->Hp->Prop),Inv X aA σ H s->t σ H Q ->
  wpAny (model X.prog X.w) X.A (forIn ifs true λc r=>if r=true then do let ok <- isTrue c X.env (eval c X.env);pure (ForInStep.yield ok) else pure (ForInStep.yield r)) (TP X aA σ Q) X.xe s):=⟨PIfs.run⟩
def dY3:TT:=λ_ H Q=>Q true H
theorem K9:PIfs X [] dY3:=⟨λe s σ H Q I h=>by
 exact Ae ⟨H,I,h⟩⟩
theorem U1 (j:PT X c t):PIfs X [c] t:=⟨λe s σ H Q I h=>by
 rw[List.forIn_cons,Ac rfl];refine Aa (Aa (thn (j e s σ H Q I h) λb m q=>Ae ?_))
 exact Ae q⟩
def stC (n:Nat)(is:AD)(σ:St):St:=List.replicate n none++is.map λi=>(σ[i]?).getD none
def cD9 (wi:TI)(n:Nat)(is:AD)(g:TG)(tt:TT)(te:TE):TE:=λσ H Q=>wi σ H λJ H1=>
 ∃W:Nat->Nat->List V->Hp->Prop,(∃m,W 0 m [] H1)/\∀i m ys H,W i m ys H->ys.length<sizeLine /\
  ((J.stop i H/\∀D,H D=none->Q (.ref D) (upd H D (.lst ys))) \/
   (J.go i H/\∀x H',J.yld i H x H'->g x (stC n is σ) H' λσ2 H2=>tt σ2 H2 λb H3=>
    if b=true then te σ2 H3 (λy H4=>∃m',m'<m/\W (i+1) m' (ys++[y]) H4) else ∃m',m'<m/\W (i+1) m' ys H3))
structure CScope (X:Cx)(scope:Scope)(cl:List (Str×Addr))(T:AJ)(is:AD)(N':AJ):Prop where
 clos:closureFor scope X.env=pure cl
 cell:∀y∈scope.names,y.2≠.cell
 kind:scope.kind=.function
 names:∀y∈scope.names,y.2=.local->scope.names.lookup y.1=some .local
 cap:∀x c,cl.lookup x=some c->X.env.cells.lookup x=some c
 has:∀x,((relabel scope X.env).names.lookup x=some .cell\/(relabel scope X.env).names.lookup x=some .free)->∃c,cl.lookup x=some c
 N:N'=T++is.map λ(i:Nat)=>((X.N[i]?).getD Str.empty:Str)
 lt:∀i∈is,i<X.N.length
 capt:∀i∈is,∀x,X.N[i]? = some x->((relabel scope X.env).names.lookup x=some .cell\/(relabel scope X.env).names.lookup x=some .free)/\(X.env.kindOf x=some .cell\/X.env.kindOf x=some .free)
theorem dT1 {σ:St}{C:Addr}{fp:AM}(S:CScope X scope cl T is N')(I:Inv X aA σ H s)
  (m:∀b∈fp,aY9 X aA H b) (Y:∀b∈fp,b<s.heap.objs.size) (U:s.heap.objs.size<=C):(cxC X N' scope cl C fp s H).Ok where
 mod:=I.ok.mod
 kind:=S.kind
 glob:=I.ok.glob
 blt:=I.ok.blt
 above:=U
 inj:=λx y c h1 J=>I.ok.inj x y c (S.cap x c h1) (S.cap y c J)
 has:=S.has
 cab:=λx c h=>by cases h
 hd:=I.ok.hd
 frames:=I.ok.frames
 stk:=.inl rfl
 exf:=λb j=>⟨Ab9 (Ab8 (Y b j) U),λx c e=>(m b j).2.2.2.2.1 x c (S.cap x c e)⟩
 bs:=λb o e=>I.bs b o e
 bsz:=Aq I.ok.bsz I.sz
 noex:=λb o e j=>by
  rcases (m b j).2.2.2.1 with z | z
  .exact I.ok.noex b o e z
  .exact absurd (Ab8 (Ab3 e) (Aq I.ok.bsz z)) (Ad9 _)
 exfs:=λb j z=>(Aa1.mp (I.stkSub b z)).elim (m b j).2.1 (m b j).2.2.1
 funs:=I.stack
 frf:=I.stkFree
def aY7 (n:Nat)(g:TG):Prop:=∀v (σ:St) H Q,n<=σ.length->g v σ H Q->g v σ H λσ' H'=>Q σ' H'/\σ'.length=σ.length/\∀i,n<=i->σ'[i]? = σ[i]?
def bM8 (n:Nat)(g:TGs):Prop:=∀vs (σ:St) H Q,n<=σ.length->g vs σ H Q->g vs σ H λσ' H'=>Q σ' H'/\σ'.length=σ.length/\∀i,n<=i->σ'[i]? = σ[i]?
theorem G3 (h:i<n):aY7 n (F4 i):=λv σ H Q c q=>
 ⟨q,Dv,λj e=>Ad0 LL⟩
theorem dP6:bM8 n bN2:=λvs σ H Q e q=>⟨q.1,q.2,rfl,λ_ _=>rfl⟩
theorem cG6 (mono:∀v σ H Q Q',(∀σ' H',Q σ' H'->Q' σ' H')->t v σ H Q->t v σ H Q')(j:∀v σ H Q Q',(∀σ' H',Q σ' H'->Q' σ' H')->u v σ H Q->u v σ H Q')(h1:aY7 n t)(Y:bM8 n u):bM8 n (p4 t u):=by
 rintro vs σ H Q X ⟨v,r,e,q⟩;refine⟨v,r,e,mono _ _ _ _ _ ?_ (h1 v σ H _ X q)⟩;rintro σ' H' ⟨M,D,U⟩;refine j _ _ _ _ _ ?_ (Y r σ' H' _ XX M)
 rintro R m ⟨s,J,c⟩;exact⟨s,XX,λi hi=>(c i hi).trans (U i hi)⟩
theorem dO6 {K:Frag}(h:bM8 n t):aY7 n (cC4 K k t):=by
 rintro v σ H Q j ⟨a,xs,e,s,c,q⟩;exact⟨a,xs,e,s,c,h xs σ H Q j q⟩
abbrev aS8 (its:AH)(n:Nat):Obj:={cls:=.type "list",data:=.seq its.toArray n}
theorem cZ5 {σ:St}{C D:Addr}{fp:AM}(S:CScope X scope cl T is N')(I:Inv X aA σ H s)
  (hf:∀b∈fp,aY9 X aA H b) (hfl:∀b∈fp,b<s.heap.objs.size) (F:s.heap.objs.size=D) (P:D<C) (hns:h₁.Ns C m) (Y:∀b o,s.heap.get? b=some o->h₁.get? b=some o) (R:h₁.get? D=some (aS8 its e)) :
  Inv (cxC X N' scope cl C fp s H) (aA++[(D,aS8 its e)]) (stC T.length is σ) H {s with heap:=h₁,toks:=tk}:=by
 have M:s.heap.objs.size<=C:=by rw[F];exact Cm P
 have ok:=dT1 S I hf hfl M
 have lt:∀p∈X.pn++aA,p.1<D:=λp hp=>by rw[<- F];exact Ab3 (I.pin p hp).1
 have stk:∀b∈frs X.stack,b<D:=λb hb=>by
  obtain⟨_,o,ho,_⟩:=I.stack.mem hb;rw[<- F];exact Ab3 ho
 refine⟨ok,rfl,I.bare,Un.kept Y,⟨m,hns,λi x v U j e3=>?_⟩,λx c h=>?_,?_,λx c h=>I.freeC x c (S.cap x c h),λp hp=>?_,I.hok.kept Y,?_⟩
 .have U:N'[i]? = some x:=U
  unfold stC at j;by_cases hi:i<T.length
  .rw[Bs (by simpa using hi),Ct,Ac hi]at j
   cases j
  .rw[Cf (by simpa using hi),Dg,Aa9]at j
   rw[S.N,Cf YY,Aa9]at U
   cases B:is[i-T.length]? with
   | none=>rw[B]at j;cases j
   | some k=>
    rw[B]at U j;have hk:=Aw B;have hlt:=S.lt k hk;have eN:X.N[k]? = some x:=by
     simp  [Option.map_some,Option.some.injEq]at U
     rw[Aa2 hlt]at U ⊢;simpa using U
    have es:σ[k]? = some (some v):=by
     simp  [Option.map_some,Option.some.injEq]at j
     cases q:σ[k]? with
     | none=>rw[q]at j;cases j
     | some y=>rw[q]at j;exact congrArg some j
    obtain⟨c1,c2⟩:=S.capt k hk x eN;obtain⟨m',hn',hl'⟩:=I.loc;obtain⟨u,r,l⟩:=hl' k x v eN es (.inr c2);refine⟨u,r,.inr ⟨c1,?_⟩⟩;rcases l with⟨k1,_⟩ | ⟨_,c,hc,J⟩
    .rcases c2 with c2 | c2 <;> rw[k1]at c2 <;> cases c2
    .obtain⟨c',Q⟩:=S.has x c1
     have:=Ab4 ((S.cap x c' Q).symm.trans hc)
     subst this;exact⟨c',Q,J.keeps Y⟩
 .obtain⟨v,q⟩:=I.cell x c (S.cap x c h);exact⟨v,q.keeps Y⟩
 .exact I.hok.fresh M
 .have hp:=hp
  rw[<- Ad7]at hp;rcases Aa0.mp hp with hp | hp
  .obtain⟨q1,q2,q3,q4,q5⟩:=I.pin p hp
   have:=lt p hp
   exact⟨Y _ _ q1,q2,Ab9 (Nat.lt_trans this P),λz=>(Aa1.mp (I.stkSub p.1 z)).elim q3 q4,q5⟩
  .have e:p=(D,aS8 its e):=by simpa using hp
   subst e;exact⟨R,I.hok.fresh (by rw[F];exact Aa7 _),Ab9 P,λz=>Ad9 _ (stk D z),λv z=>by cases z⟩
 .show(stC T.length is σ).length=N'.length
  rw[S.N];unfold stC
  simp
def dJ3 (X:Cx)(aA:Ee)(σ:St)(D C:Addr)(H4:Hp)(s4:Shared):Prop:=
 (∃m,s4.heap.Ns C m)/\(∀h',Heap.SameBut C s4.heap h'->Inv X aA σ H4 {s4 with heap:=h'})/\H4 C=none/\C≠X.env.locals/\X.s₀.heap.objs.size<=C/\(∀x c,X.env.cells.lookup x=some c->c≠C)/\∀p∈X.pn++aA,p.1≠C
theorem bH2 (hc:X.calm=true)(S:CScope X scope cl T is N')(hi:PI X tg iter wi)(hg:aY7 T.length g)
  (m:∀C ex s H,PG (cxC X N' scope cl C ex s H) tg g/\PIfs (cxC X N' scope cl C ex s H) ifs tt/\PE (cxC X N' scope cl C ex s H) elt te)
  (hs:∀x,foldedSetIterable iter X.env x=pure x) {σ:St} (I:Inv X aA σ H s) (h:cD9 wi T.length is g tt te σ H Q)
  (fin:∀(D C:Addr) (H4:Hp) (s4:Shared),dJ3 X aA σ D C H4 s4->Q (.ref D) H4->compPost (model X.prog X.w) X.A X.xe use Qc (.ref D) C (.ok .next) s4) :
  wpAny (model X.prog X.w) X.A (comprehension (.ListComp elt [⟨tg,iter,ifs,0⟩] scope pos) scope X.env pos2 (newList []) false (eval iter X.env) use) Qc X.xe s:=by
 refine wpAny_comprehension_free rfl hs S.clos S.kind S.names (thn (hi aA s σ H _ I h) λv s1 h1=>thn h1 λitv M h2=>?_)
 obtain⟨it,U,tn,J,R,e,I2,Tn,st2,f2,W,⟨m0,w0⟩,turn⟩:=h2;subst e;refine Cb (wpAny_newFunctionEnv S.cell (by intro y hy;simp at hy) (λh₁ hns₁ B=>?_) S.kind)
 generalize hH2:M.heap.push {cls:=.type "list",dict:=none,data:=.seq ([]).toArray}=G2 at hns₁ B ⊢;have eC:G2.objs.size=M.heap.objs.size+1:=by rw[<- hH2,Dm]
 generalize hC:G2.objs.size=C at *;generalize hD:M.heap.objs.size=D at *;have Y:D<C:=by rw[eC];exact Nat.lt_succ_self D
 have bC:∀{b:Addr},b<D->b≠C:=λm=>Ab9 (Nat.lt_trans m Y)
 have below:∀b o,M.heap.get? b=some o->b<D:=λb o e=>by rw[<- hD];exact Ab3 e
 have old:=λb o e=>B.extBut b o (bC (below b o e)) (Aa6 _ (hH2▸Aa6 _ e))
 have hacc:h₁.get? D=some (aS8 [] 0):=B.extBut _ _ (Ab9 Y) (Aa6 _ (hH2▸(by rw[<- hD];exact Ac3 _ rfl)))
 have F:∀b∈U,b<D:=λb m=>by
  obtain⟨o,e,_⟩:=Tn.obj _ _ st2 b m;exact below b o e
 have lt:=λp hp=>below _ _ (I2.pin p hp).1
 have stk:∀b∈frs X.stack,b<D:=λb m=>by
  obtain⟨_,o,ho,_⟩:=I2.stack.mem m;exact below b o ho
 have cel:∀x c,cl.lookup x=some c->c<D:=λx c hx=>by
  obtain⟨v,q⟩:=I2.cell x c (S.cap x c hx);rw[<- hD];exact q.lt
 have H2D:=I2.hok.fresh (by rw[hD];exact Aa7 _)
 obtain⟨pgx,pix,pex⟩:=m C U M R;have stat:∀{e:Nat} {its:AH} {H':Hp},(∀b∈U,H' b=none)->∀b∈U,aY9 (cxC X N' scope cl C U M R) (aA++[(D,aS8 its e)]) H' b:=λ{e its H'} hn b m=>by
  obtain⟨f0,f1,f3,f4,f5,f6⟩:=f2 b m
  have:=F b m
  refine⟨hn b m,bC (F b m),λz=>(Aa1.mp (I2.stkSub b z)).elim f1 f3,.inl m,λx c z=>f5 x c (S.cap x c z),λp hp=>?_⟩
  have hp:=hp
  rw[<- Ad7]at hp;rcases Aa0.mp hp with hp | hp
  .exact f6 p hp
  .have e:p=(D,aS8 its e):=by simpa using hp
   subst e;exact(Ab9 (F b m)).symm
 have loop:codeAny (model X.prog X.w) X.A (.compLoop (.ListComp elt [⟨tg,iter,ifs,0⟩] scope pos) 0 (.ref it) (.ref D) (compEnvC scope cl C X.env)) (compPost (model X.prog X.w) X.A X.xe use Qc (.ref D) C) {M with heap:=h₁,toks:=M.toks+([]:List (Str×Value)).length}:=by
  refine bU0 (λn s'=>∃i ys its e H3,Inv (cxC X N' scope cl C U M R) (aA++[(D,aS8 its e)]) (stC T.length is σ) H3 s'/\tn i s'.heap/\(∀b∈U,H3 b=none)/\Vals ys its/\W i n ys H3) ?_ m0
   ⟨0,[],[],0,R,cZ5 S I2 f2 (by rw[hD];exact F) hD Y hns₁ old hacc,Tn.keep _ _ _ st2 λb _ o q=>old b o q,λb m=>(f2 b m).1,.nil,w0⟩
  rintro n s3 ⟨i,ys,its,e,H3,I3,st3,fr3,rv,w3⟩;obtain⟨hsz,hh⟩:=turn i n ys H3 w3;rcases hh with⟨stop,qn⟩ | ⟨go,step⟩
  .refine thn (Tn.done (cxC X N' scope cl C U M R) rfl rfl rfl hc i _ s3 _ H3 _ I3 (stat fr3) st3 stop) λr s4 ⟨hr,I4⟩=>?_
   subst hr;obtain⟨m4,hn4,_⟩:=I4.loc;obtain⟨pd,H3D,_⟩:=I4.pin (D,aS8 its e) SS
   have H3C:=I4.free
   refine fin D C (upd H3 D (.lst ys)) s4 ⟨⟨m4,hn4⟩,λh' sb=>?_,by rw[C1 (Nat.ne_of_gt Y)];exact H3C,λz=>Ad9 _ (Nat.lt_trans Y (by rw[z];have:=I2.lt;rw[hD]at this;exact this)),Aq I2.sz (by rw[hD];exact Cm Y),λx c e=>by
    obtain⟨v,q⟩:=I2.cell x c e;exact bC (by rw[<- hD];exact q.lt),λp hp=>bC (lt p hp)⟩ (qn D H3D)
   have kC:∀b o,b≠C->s4.heap.get? b=some o->h'.get? b=some o:=λb o m q=>(sb.2 b m).trans q
   have u:=I4.base
   have u:=u
   have u2:Un (frs X.stack) U R (upd H3 D (.lst ys)) M.heap h':=by
    refine⟨λb o q n m hx=>kC b o (bC (below b o q)) (u.keep b o q n m hx),λb o q n m hx=>?_,λb o q n hx=>?_,λb o q hx=>?_,λb xs q=>?_,λb o xs q=>?_,λb ps q=>?_⟩
    .obtain⟨sl,q1⟩:=u.slot b o q n m hx;exact⟨sl,kC b _ (bC (below b o q)) q1⟩
    .rw[C1 (Ab9 (below b o q))];exact u.free b o q n hx
    .obtain⟨o',q1⟩:=u.there b o q hx;exact⟨o',kC b _ (bC (below b o q)) q1⟩
    .rw[C1 (F2 q H2D)];exact u.tups b xs q
    .rw[C1 (F2 q H2D)];exact u.frzs b o xs q
    .obtain⟨more,q1⟩:=u.tbls b ps q;exact⟨more,by rw[C1 (F2 q H2D)];exact q1⟩
   have hok:HOk X.prog X.w (upd H3 D (.lst ys)) h':=λb o q=>by
    by_cases m:b=D
    .subst m;rw[C7]at q;cases q;exact⟨Cm hsz,its,e,rv,kC _ _ (Ab9 Y) pd⟩
    .rw[C1 m]at q;refine(I4.hok b o q).stay (λc v hc q'=>kC c v ?_ q') (λc q'=>by rw[C1 (F2 q' H3D)];exact q') λc xs q'=>by rw[C1 (F2 q' H3D)];exact q'
     rcases hc with z | z
     .rw[z];exact F2 q H3C
     .exact F2 z H3C
   have os4:=I4.os
   exact I2.call' os4 u2 hok I4.bare λb m=>⟨(f2 b m).2.2.2.1,(f2 b m).2.1,(f2 b m).2.2.2.2.1,(f2 b m).2.2.2.2.2⟩
  .refine thn (Tn.item (cxC X N' scope cl C U M R) rfl rfl rfl hc i _ s3 _ H3 _ I3 (stat fr3) st3 go) λr s4 ⟨u,hr,h4⟩=>?_
   subst hr;refine thn h4 λ_ s5 pz=>?_
   obtain⟨x,H5,I5,r5,y5,st5,fr5⟩:=pz;have I5':=I5.pinned (stat fr5) (Tn.obj _ _ st5);have hln:T.length<=(stC T.length is σ).length:=by unfold stC;simp
   refine thn (pgx _ s5 _ H5 x u _ I5' r5 (hg x _ H5 _ hln (step x H5 y5))) λ_ s6 pz=>?_
   obtain⟨σ6,H6,I6,q6,l6,k6⟩:=pz;refine thn (pix _ s6 σ6 H6 _ I6 q6) λb s7 pz=>?_
   obtain⟨H7,I7,q7⟩:=pz;have back:∀{H8:Hp} {s8:Shared} {P:AH} {e':Nat},Inv (cxC X N' scope cl C U M R) (aA++[(D,aS8 P e')]++aJ9 U s5.heap) σ6 H8 s8->Inv (cxC X N' scope cl C U M R) (aA++[(D,aS8 P e')]) (stC T.length is σ) H8 s8/\tn (i+1) s8.heap/\∀b∈U,H8 b=none:=λ{H8 s8 P e'} I8=>by
    refine⟨I8.unpinned.weak l6.symm λj v q=>?_,Tn.keep _ _ _ st5 λb m o q=>(I8.pin (b,o) (Ac1 _ (Ac1 _ (t9 m q)))).1,λb m=>?_⟩
    .by_cases hj:T.length<=j
     .rw[k6 j hj];exact q
     .unfold stC at q;rw[Bs (by simpa using hj),Ct,Ac eG7]at q
      cases q
    .obtain⟨o,q,d⟩:=Tn.obj _ _ st5 b m;exact(I8.pin (b,o) (Ac1 _ (Ac1 _ (t9 m q)))).2.1
   cases b with
   | false=>
    obtain⟨m',hm,w7⟩:=q7;obtain⟨J1,J2,J3⟩:=back I7;exact⟨m',hm,i+1,ys,its,e,H7,J1,J2,J3,rv,w7⟩
   | true=>
    refine thn (pex _ s7 σ6 H7 _ I7 q7) λy s8 pz=>?_
    obtain⟨yv,H8,I8,r8,m',hm,w8⟩:=pz;obtain⟨pd,H8D,_⟩:=I8.pin (D,aS8 its e) SS
    have pl:s8.heap.PlainList D its.toArray:=⟨e,pd⟩
    refine wpAny_list_append_plain pl (λh9 pl9 sb9=>?_) (by have:=rv.length;simp;lia)
    obtain⟨e9,hl9⟩:=pl9;have ea:its.toArray.push y=(its++[y]).toArray:=by simp
    rw[ea]at hl9;have I8':=I8.pins_of λp hp=>I8.pin p (Ac1 _ ((Aa0.mp hp).elim (λz=>Ak _ (Ak _ z)) λz=>Ac1 _ z))
    have I9:Inv (cxC X N' scope cl C U M R) (aA++aJ9 U s5.heap) σ6 H8 {s8 with heap:=h9}:=by
     refine I8'.turned (λb o m q=>(sb9.2 b m).trans q) H8D (Ab9 Y) (.inr (by show M.heap.objs.size<=D;rw[hD];exact Aa7 _)) (λx c z=>Ab9 (cel x c z)) λp hp=>?_
     have hp:=hp
     rw[<- Ad7]at hp;rcases Aa0.mp hp with z | z
     .exact Ab9 (lt p z)
     .exact Ab9 (F _ (bH4 z).1)
    have I9':Inv (cxC X N' scope cl C U M R) (aA++[(D,aS8 (its++[y]) e9)]++aJ9 U s5.heap) σ6 H8 {s8 with heap:=h9}:=I9.pins_of λp hp=>by
     rcases Aa0.mp hp with z | z
     .rcases Aa0.mp z with z | z
      .exact I9.pin p (Ac1 _ (Ak _ z))
      .have ep:p=(D,aS8 (its++[y]) e9):=by simpa using z
       subst ep;exact⟨hl9,H8D,Ab9 Y,λz=>Ad9 _ (stk D z),λv z=>by cases z⟩
     .exact I9.pin p (Ac1 _ (Ac1 _ z))
    obtain⟨J1,J2,J3⟩:=back I9';exact⟨m',hm,i+1,ys++[yv],its++[y],e9,H8,J1,J2,J3,rv.append (.cons r8 .nil),w8⟩
 exact codeAny_compStart_list loop (Tn.self _ 0 _ _ _ (Tn.keep _ _ _ st2 λb _ o q=>old b o q) loop)
theorem K2 (Y:X.calm=true)(S:CScope X scope cl T is N')(hi:PI X tg iter wi)(U:aY7 T.length g)
  (m:∀C ex s H,PG (cxC X N' scope cl C ex s H) tg g/\PIfs (cxC X N' scope cl C ex s H) ifs tt/\PE (cxC X N' scope cl C ex s H) elt te)
  (M:∀x,foldedSetIterable iter X.env x=pure x:=by intro _;rfl):PE X (.ListComp elt [⟨tg,iter,ifs,0⟩] scope pos) (cD9 wi T.length is g tt te):=by
 refine⟨?_⟩;intro B s σ H Q I h;exact bH2 Y S hi U m M I h λD C j P ⟨⟨R,e⟩,J,_⟩ q=>⟨R,e,λc F=>⟨.ref D,j,J c F,rfl,q⟩⟩
theorem v9 {pos' spos:Pos}(hN:X.N.Nodup)(hx:X.N[i]? = some x)(U:X.env.scope.names.lookup x=some .local)
  (hc:X.calm=true) (S:CScope X scope cl T is N') (hi:PI X tg iter wi) (hg:aY7 T.length g)
  (j:∀C ex s H,PG (cxC X N' scope cl C ex s H) tg g/\PIfs (cxC X N' scope cl C ex s H) ifs tt/\PE (cxC X N' scope cl C ex s H) elt te)
  (m:swapsWith (.ListComp elt [⟨tg,iter,ifs,0⟩] scope pos) (some (.Name x pos')) spos.line X.env=pure true:=by rfl)
  (hs:∀x,foldedSetIterable iter X.env x=pure x:=by intro _;rfl):PS X (.Assign [.Name x pos'] (.ListComp elt [⟨tg,iter,ifs,0⟩] scope pos) spos) (aT8 (cD9 wi T.length is g tt te) (F4 i)):=by
 refine⟨?_⟩;intro aA s σ H D I h;rw[exec_Assign_Name_used _ _ _ _ m];refine Aa (wpAny_standAt (Aa ?_));refine Aa (wpAny_mono (bH2 hc S hi hg j hs I h λQ C F s4 ⟨⟨m4,c⟩,J,k1,M,k3,R,k5⟩ q=>?_) (λ_ s' hq=>Ae (Ae hq)) λ_ _ e=>e)
 have B:=J s4.heap (.refl _ _)
 refine wpAny_assign_Name (bG9 B hN hx (.inl U) (v:=.ref Q) rfl (λs5 P pz=>?_) (.inr U))
 obtain⟨a,sb,ha⟩:=pz;have aC:a≠C:=by
  rcases ha with rfl | ha
  .exact M.symm
  .exact R x a ha
 refine⟨m4,c.sameBut sb aC.symm,λh' Y=>⟨_,F,?_,q⟩⟩
 exact P.turned (λb o j e=>(Y.2 b j).trans e) k1 M (.inr k3) R k5
end
end L2
namespace LV
open PySem L2
def _root_.L2.excO (x C:Addr):HO:=.ext λh=>∃o vs,h.get? x=some o/\o.cls=.ref C/\o.data=.fields vs
def _root_.L2.dEnt (x:AF×Addr×Value):DictEntry:=⟨reduceHash (Builtin.Tuple.tupleHashOf (x.1.map hashInt)),.ref x.2.1,x.2.2⟩
def _root_.L2.dicO (a:Addr)(kv:List (AF×Addr×V)):HO:=.ext λh=>∃xs:List (AF×Addr×Value),Paired (λp q=>p.1=q.1/\p.2.1=q.2.1/\RelV p.2.2 q.2.2) kv xs /\
 kv.length<=sizeLine/\(a==sysModules)=false/\∃o es ep,h.get? a=some o/\o.ExactDict/\o.data=.dict es ep/\es.toList=xs.map L2.dEnt/\(xs.map (·.1)).Nodup
inductive HM where
 | l (xs:List V) | x (a:Addr) (kv:List (AF×Addr×V))
def HM.ho:HM->HO
 | .l xs=>.lst xs
 | .x a kv=>L2.dicO a kv
theorem HM.nt {u:HM}(h:u.ho=.tup xs):False:=by cases u <;> cases h
theorem HM.nf {u:HM}(h:u.ho=.frz o v):False:=by cases u <;> cases h
def aA8:PyData->Bool
 | .none | .bool _ | .int _ | .str _=>true
 | .tuple ds=>ds.all λd=>match d with | .int _=>true | _=>false
 | _=>false
def cO1 (K:Frag)(H:Hp)(v:V):PyData->Prop
 | .none=>v=.non
 | .bool b=>v=.bl b
 | .int i=>v=.int i
 | .str x=>v=.str x
 | .tuple ds=>∃(a:Addr) (l:AF),v=.ref a/\ds=l.map PyData.int/\SqT K H a (l.map V.int)
 | _=>False
def V9 (kvs:List (AF×PyData)):List (PyData×PyData):=kvs.map λx=>(PyData.tuple (x.1.map PyData.int),x.2)
def dD (kvs:List (AF×PyData)):PyData:=if kvs.all (λx=>aA8 x.2) then .dict (V9 kvs) else .dict [(.none,.none)]
def KvF (K:Frag)(H:Hp):List (AF×Addr×V)->List (AF×PyData)->Prop:=Paired λx y=>x.1=y.1/\SqT K H x.2.1 (x.1.map V.int)/\cO1 K H x.2.2 y.2
mutual
inductive Rep (K:Frag)(H:Hp):V->PyData->Prop
 | non:Rep K H .non .none
 | bl (b:Bool):Rep K H (.bl b) (.bool b)
 | int (i:Int):Rep K H (.int i) (.int i)
 | str (x:Str):Rep K H (.str x) (.str x)
 | tup {a:Addr} {xs:List V} {ds:AG}:SqT K H a xs->Reps K H xs ds->Rep K H (.ref a) (.tuple ds)
 | lst {a:Addr} {xs:List V} {ds:AG}:SqL K H a xs->Reps K H xs ds->Rep K H (.ref a) (.list ds)
 | exc {a C:Addr}:H a=some (L2.excO a C)->Rep K H (.ref a) (.dict [(.int (C:Nat),.none)])
 | ptr {a:Addr}:Rep K H (.ref a) (.dict [(.none,.none)])
 | adr {a:Addr}:Rep K H (.ref a) (.dict [(.int (a:Nat),.none),(.none,.none)])
 | dic {a:Addr} {kv:List (AF×Addr×V)} {kvs:List (AF×PyData)} {ds:List (PyData×PyData)}:H a=some (L2.dicO a kv)->KvF K H kv kvs->ds=V9 kvs->Rep K H (.ref a) (.dict ds)
inductive Reps (K:Frag)(H:Hp):List V->AG->Prop
 | nil:Reps K H [] []
 | cons {v:V} {d:PyData} {vs:List V} {ds:AG}:Rep K H v d->Reps K H vs ds->Reps K H (v::vs) (d::ds)
end
section
theorem _root_.L2.Same.rf (H:Hp):Same H H:=λ_ _ e=>e
theorem _root_.L2.Same.tr (a:Same H1 H2)(b:Same H2 H3):Same H1 H3:=λx o e=>b x o (a x o e)
theorem l4 (h:Same H H')(r:Rd H a u):Rd H' a u:=by
 rcases r with e | ⟨o,e⟩
 .exact .inl (h _ _ e)
 .exact .inr ⟨o,h _ _ e⟩
theorem F7 (h:Same H H')(r:SqT K H a xs):SqT K H' a xs:=r.imp (l4 h) id
theorem O6 (h:Same H H')(r:SqL K H a xs):SqL K H' a xs:=r.imp (l4 h) id
theorem cM3 (h:Same H H'):∀{d:PyData},cO1 K H v d->cO1 K H' v d
 | .none,r | .bool _,r | .int _,r | .str _,r=>r
 | .tuple _,⟨a,l,e,j,s⟩=>⟨a,l,e,j,F7 h s⟩
 | .list _,r | .dict _,r=>r
theorem bS8 (h:Same H H')(r:KvF K H kv kvs):KvF K H' kv kvs:=by
 induction r with
 | nil=>exact .nil
 | cons a _ e=>exact .cons ⟨a.1,F7 h a.2.1,cM3 h a.2.2⟩ e
mutual
theorem bD4 (h:Same H H'):∀(d:PyData) {v:V},Rep K H v d->Rep K H' v d
 | .none,_,r=>by cases r;exact .non
 | .bool _,_,r=>by cases r;exact .bl _
 | .int _,_,r=>by cases r;exact .int _
 | .str _,_,r=>by cases r;exact .str _
 | .tuple ds,_,r=>by cases r with | tup s rs=>exact .tup (F7 h s) (aG6 h ds rs)
 | .list ds,_,r=>by cases r with | lst s rs=>exact .lst (O6 h s) (aG6 h ds rs)
 | .dict _,_,r=>by cases r with | exc e=>exact .exc (h _ _ e) | ptr=>exact .ptr | adr=>exact .adr | dic e r z=>exact .dic (h _ _ e) (bS8 h r) z
theorem aG6 (h:Same H H'):∀(ds:AG) {vs:List V},Reps K H vs ds->Reps K H' vs ds
 | [],_,r=>by cases r;exact .nil
 | d::ds,_,r=>by cases r with | cons a b=>exact .cons (bD4 h d a) (aG6 h ds b)
end
theorem Rep.mono (r:Rep K H v d)(h:Same H H'):Rep K H' v d:=bD4 h d r
theorem Reps.mono (r:Reps K H vs ds)(h:Same H H'):Reps K H' vs ds:=aG6 h ds r
mutual
def imm:PyData->Bool
 | .none | .bool _ | .int _ | .str _=>true
 | .tuple ds=>K5 ds
 | .list _ | .dict _=>false
def K5:AG->Bool
 | []=>true
 | d::ds=>imm d&&K5 ds
end
mutual
theorem bL9 (h:∀a xs,Rd H a (.tup xs)->Rd H' a (.tup xs)):∀(d:PyData) {v:V},imm d=true->Rep K H v d->Rep K H' v d
 | .none,_,_,r=>by cases r;exact .non
 | .bool _,_,_,r=>by cases r;exact .bl _
 | .int _,_,_,r=>by cases r;exact .int _
 | .str _,_,_,r=>by cases r;exact .str _
 | .tuple ds,_,i,r=>by
  cases r with
  | tup s rs=>exact .tup (s.imp (h _ _) id) (bB6 h ds (by simpa[imm]using i) rs)
 | .list ds,_,i,r=>by simp[imm]at i
 | .dict _,_,i,r=>by simp[imm]at i
theorem bB6 (h:∀a xs,Rd H a (.tup xs)->Rd H' a (.tup xs)):∀(ds:AG) {vs:List V},K5 ds=true->Reps K H vs ds->Reps K H' vs ds
 | [],_,_,r=>by cases r;exact .nil
 | d::ds,_,i,r=>by
  have e:imm d=true/\K5 ds=true:=by simpa[K5]using i
  cases r with | cons a b=>exact .cons (bL9 h d e.1 a) (bB6 h ds e.2 b)
end
theorem Reps.length:∀{vs:List V} {ds:AG},Reps K H vs ds->vs.length=ds.length
 | _,[],r=>by cases r;rfl
 | _,d::ds,r=>by cases r with | cons a b=>simp[Reps.length b]
theorem Reps.get:∀{vs:List V} {ds:AG} {i:Nat} {v:V},Reps K H vs ds->vs[i]? = some v->∃d,ds[i]? = some d/\Rep K H v d
 | _,[],_,_,r,e=>by cases r;simp at e
 | _,d::ds,0,v,r,e=>by
  cases r with | cons a b=>simp at e;subst e;exact⟨d,rfl,a⟩
 | _,d::ds,i+1,v,r,e=>by
  cases r with
  | cons a b=>
   obtain⟨d',h1,h2⟩:=Reps.get b (by simpa using e)
   exact⟨d',by simpa using h1,h2⟩
theorem Reps.get':∀{vs:List V} {ds:AG} {i:Nat} {d:PyData},Reps K H vs ds->ds[i]? = some d->∃v,vs[i]? = some v/\Rep K H v d
 | _,[],_,_,r,e=>by simp at e
 | _,d::ds,0,v,r,e=>by
  cases r with | cons a b=>simp at e;subst e;exact⟨_,rfl,a⟩
 | _,d::ds,i+1,v,r,e=>by
  cases r with
  | cons a b=>
   obtain⟨d',h1,h2⟩:=Reps.get' b (by simpa using e)
   exact⟨d',by simpa using h1,h2⟩
theorem Reps.append:∀{vs us:List V} {ds es:AG},Reps K H vs ds->Reps K H us es->Reps K H (vs++us) (ds++es)
 | _,_,[],_,r,s=>by cases r;exact s
 | _,_,d::ds,_,r,s=>by cases r with | cons a b=>exact .cons a (Reps.append b s)
theorem Reps.drop:∀{vs:List V} {ds:AG} (n:Nat),Reps K H vs ds->Reps K H (vs.drop n) (ds.drop n)
 | _,_,0,r=>r
 | _,[],n+1,r=>by cases r;exact .nil
 | _,d::ds,n+1,r=>by cases r with | cons a b=>exact Reps.drop n b
theorem Reps.take:∀{vs:List V} {ds:AG} (n:Nat),Reps K H vs ds->Reps K H (vs.take n) (ds.take n)
 | _,_,0,r=>.nil
 | _,[],n+1,r=>by cases r;exact .nil
 | _,d::ds,n+1,r=>by cases r with | cons a b=>exact .cons a (Reps.take n b)
theorem Reps.set:∀{vs:List V} {ds:AG} (n:Nat) {v:V} {d:PyData},Reps K H vs ds->Rep K H v d->Reps K H (vs.set n v) (ds.set n d)
 | _,[],n,_,_,r,_=>by cases r;exact .nil
 | _,e::ds,0,_,_,r,s=>by cases r with | cons a b=>exact .cons s b
 | _,e::ds,n+1,_,_,r,s=>by cases r with | cons a b=>exact .cons a (Reps.set n b s)
theorem Reps.eraseIdx:∀{vs:List V} {ds:AG} (n:Nat),Reps K H vs ds->Reps K H (vs.eraseIdx n) (ds.eraseIdx n)
 | _,[],n,r=>by cases r;exact .nil
 | _,e::ds,0,r=>by cases r with | cons a b=>exact b
 | _,e::ds,n+1,r=>by cases r with | cons a b=>exact .cons a (Reps.eraseIdx n b)
theorem Reps.dropLast (r:Reps K H vs ds):Reps K H vs.dropLast ds.dropLast:=by
 rw[List.dropLast_eq_take,List.dropLast_eq_take,r.length];exact r.take _
theorem Reps.reverse:∀{vs:List V} {ds:AG},Reps K H vs ds->Reps K H vs.reverse ds.reverse
 | _,[],r=>by cases r;exact .nil
 | _,d::ds,r=>by
  cases r with
  | cons a b=>rw[List.reverse_cons,List.reverse_cons];exact(Reps.reverse b).append (.cons a .nil)
theorem V0:∀(l:AF),Reps K H (l.map V.int) (l.map PyData.int)
 | []=>.nil
 | i::l=>.cons (.int i) (V0 l)
theorem Reps.ints:∀{l:AF} {vs:List V},Reps K H vs (l.map PyData.int)->vs=l.map V.int
 | [],_,r=>by cases r;rfl
 | i::l,_,r=>by
  cases r with
  | cons a b=>cases a;rw[Reps.ints b];rfl
end
open Classical in
noncomputable def hid (S:Addr->Prop)(H:Hp):Hp:=λb=>if S b then none else H b
section
theorem hid_some:hid S H b=some o↔¬S b/\H b=some o:=by
 unfold hid;by_cases h:S b
 .rw[Ac h];exact⟨(λe=>nomatch e),λe=>absurd h e.1⟩
 .rw[Ab h];exact⟨λe=>⟨h,e⟩,λe=>e.2⟩
theorem O1:Same (hid S H) H:=λb o e=>(hid_some.mp e).2
theorem E5 (h:Same H H')(j:∀b,S' b->H b≠none->S b):Same (hid S H) (hid S' H'):=λb o e=>by
 obtain⟨a,c⟩:=hid_some.mp e;exact hid_some.mpr ⟨λz=>a (j b z (by rw[c];simp)),h b o c⟩
theorem K7 (h:Same H H'):Same (hid S H) (hid S H'):=E5 h λ_ z _=>z
theorem w6 (j:∀b,S b->∃u:HM,H b=some u.ho)(r:Rd H a (.tup xs)):Rd (hid S H) a (.tup xs):=by
 have n:¬S a:=λz=>by
  obtain⟨c,e⟩:=j a z;rcases r with r | ⟨o,r⟩ <;> rw[e]at r <;> replace r:=Ab4 r
  .exact HM.nt r
  .exact HM.nf r
 rcases r with r | ⟨o,r⟩
 .exact .inl (hid_some.mpr ⟨n,r⟩)
 .exact .inr ⟨o,hid_some.mpr ⟨n,r⟩⟩
end
inductive OT where
 | leaf (d:PyData) | tup (ts:List OT) | lst (ts:List OT) | dic (kvs:List (AF×PyData))
mutual
def OT.data:OT->PyData
 | .leaf d=>d
 | .tup ts=>.tuple (OT.datas ts)
 | .lst ts=>.list (OT.datas ts)
 | .dic kvs=>dD kvs
def OT.datas:List OT->AG
 | []=>[]
 | t::ts=>t.data::OT.datas ts
end
mutual
/-- v is the tree t;L: its lists -/
inductive Dp (K:Frag)(Z H:Hp):V->OT->AM->Prop
 | leaf {v:V} {d:PyData}:Rep K Z v d->Dp K Z H v (.leaf d) []
 | tup {a:Addr} {xs:List V} {ts:List OT} {L:AM}:SqT K H a xs->Dps K Z H xs ts L->Dp K Z H (.ref a) (.tup ts) L
 | lst {a:Addr} {xs:List V} {ts:List OT} {L:AM}:H a=some (.lst xs)->Dps K Z H xs ts L->Dp K Z H (.ref a) (.lst ts) (a::L)
 | dic {a:Addr} {kv:List (AF×Addr×V)} {kvs:List (AF×PyData)}:H a=some (L2.dicO a kv)->kv.map (·.1)=kvs.map (·.1)->Reps K Z (kv.map λx=>V.ref x.2.1) (kvs.map λx=>PyData.tuple (x.1.map PyData.int))->Reps K Z (kv.map (·.2.2)) (kvs.map (·.2))->Dp K Z H (.ref a) (.dic kvs) [a]
inductive Dps (K:Frag)(Z H:Hp):List V->List OT->AM->Prop
 | nil:Dps K Z H [] [] []
 | cons {v:V} {t:OT} {vs:List V} {ts:List OT} {L L':AM}:Dp K Z H v t L->Dps K Z H vs ts L'->Dps K Z H (v::vs) (t::ts) (L++L')
end
section
mutual
/-- only its lists and what is below count -/
theorem aG9 (j:Same Z Z')(c:∀a xs,Rd H a (.tup xs)->Rd H' a (.tup xs)):∀(t:OT) {v:V} {L:AM},(∀b∈L,H' b=H b)->Dp K Z H v t L->Dp K Z' H' v t L
 | .leaf d,_,_,_,r=>by cases r with | leaf r=>exact .leaf (r.mono j)
 | .tup ts,_,_,e,r=>by cases r with | tup s r=>exact .tup (s.imp (c _ _) id) (o4 j c ts e r)
 | .lst ts,_,_,e,r=>by
  cases r with
  | lst s r=>exact .lst (by rw[e _ SS];exact s) (o4 j c ts (λb h=>e b (by simp[h])) r)
 | .dic kvs,_,_,e,r=>by
  cases r with
  | dic s k m Y=>exact .dic (by rw[e _ SS];exact s) k (m.mono j) (Y.mono j)
theorem o4 (j:Same Z Z')(e:∀a xs,Rd H a (.tup xs)->Rd H' a (.tup xs)):∀(ts:List OT) {vs:List V} {L:AM},(∀b∈L,H' b=H b)->Dps K Z H vs ts L->Dps K Z' H' vs ts L
 | [],_,_,_,r=>by cases r;exact .nil
 | t::ts,_,_,hl,r=>by
  cases r with
  | cons a b=>exact .cons (aG9 j e t (λb h=>hl b (by simp[h])) a) (o4 j e ts (λb h=>hl b (by simp[h])) b)
end
mutual
theorem aB8:∀(t:OT) {v:V} {L:AM},Dp K Z H v t L->∀b∈L,∃u:HM,H b=some u.ho
 | .leaf d,_,_,r=>by cases r with | leaf r=>intro b h;simp at h
 | .tup ts,_,_,r=>by cases r with | tup s r=>exact m8 ts r
 | .lst ts,_,_,r=>by
  cases r with
  | lst s r=>
   intro b h;rcases Aa1.mp h with rfl | h
   .exact⟨.l _,s⟩
   .exact m8 ts r b h
 | .dic kvs,_,_,r=>by
  cases r with
  | dic s k e j=>
   intro b h;rw[Ad8.mp h];exact⟨.x _ _,s⟩
theorem m8:∀(ts:List OT) {vs:List V} {L:AM},Dps K Z H vs ts L->∀b∈L,∃u:HM,H b=some u.ho
 | [],_,_,r=>by cases r;intro b h;simp at h
 | t::ts,_,_,r=>by
  cases r with
  | cons a b=>
   intro c h;rcases Aa0.mp h with h | h
   .exact aB8 t a c h
   .exact m8 ts b c h
end
theorem bU5 {H:Hp}{v:V}:∀{d:PyData},aA8 d=true->Rep K H v d->cO1 K H v d
 | .none,_,r=>by cases r;rfl
 | .bool _,_,r=>by cases r;rfl
 | .int _,_,r=>by cases r;rfl
 | .str _,_,r=>by cases r;rfl
 | .list _,f,_=>by cases f
 | .dict _,f,_=>by cases f
 | .tuple ds,f,r=>by
  cases r with
  | @tup a xs _ s rs=>
   have c:∀(ds:AG) (xs:List V),(ds.all λd=>match d with | .int _=>true | _=>false)=true->Reps K H xs ds->∃l:AF,ds=l.map PyData.int/\xs=l.map V.int:=λds=>by
    induction ds with
    | nil=>intro xs _ r;cases r;exact⟨[],rfl,rfl⟩
    | cons d ds m=>
     intro xs f r;rw[List.all_cons,As]at f;cases r with
     | cons a b=>
      obtain⟨l,e,j⟩:=m _ f.2 b;cases d with
      | int i=>cases a;exact⟨i::l,by rw[e];rfl,by rw[j];rfl⟩
      | _=>cases f.1
   obtain⟨l,e,j⟩:=c ds xs f rs;exact⟨a,l,rfl,e,by rw[<- j];exact s⟩
theorem dB8 {H:Hp}:∀{kv:List (AF×Addr×V)} {kvs:List (AF×PyData)},kvs.all (λx=>aA8 x.2)=true->kv.map (·.1)=kvs.map (·.1)->Reps K H (kv.map λx=>V.ref x.2.1) (kvs.map λx=>PyData.tuple (x.1.map PyData.int))->Reps K H (kv.map (·.2.2)) (kvs.map (·.2))->KvF K H kv kvs
 | [],[],_,_,_,_=>.nil
 | [],_::_,_,e,_,_=>by simp at e
 | _::_,[],_,e,_,_=>by simp at e
 | x::kv,y::kvs,f,e,r1,r2=>by
  simp  [Ac7,Bv]at e r1 r2
  rw[List.all_cons,As]at f;cases r1 with
  | cons j m=>
   cases r2 with
   | cons s Y=>
    refine .cons ⟨e.1,?_,bU5 f.1 s⟩ (dB8 f.2 e.2 m Y);have z:=bU5 (by simp[aA8,List.all_map,Function.comp_def]) j
    obtain⟨a,l,h1,X,U⟩:=z;cases h1
    have:y.1=l:=by
     have inj:∀(u v:AF),u.map PyData.int=v.map PyData.int->u=v:=λu=>by
      induction u with
      | nil=>intro v h;cases v <;> simp at h ⊢
      | cons c u J=>intro v h;cases v with
       | nil=>simp at h
       | cons M v=>simp at h;rw[h.1,J v h.2]
     exact inj _ _ X
    rw[e.1,this];exact U
mutual
/-- the tree is a datum,where one sees its lists -/
theorem aZ2 (m:Same Z H)(c:∀a xs,Rd H a (.tup xs)->Rd H' a (.tup xs))(e:Same Z H'):∀(t:OT) {v:V} {L:AM},(∀b∈L,H' b=H b)->Dp K Z H v t L->Rep K H' v t.data
 | .leaf d,_,_,_,r=>by cases r with | leaf r=>exact r.mono e
 | .tup ts,_,_,j,r=>by
  cases r with
  | tup s r=>exact .tup (s.imp (c _ _) id) (bP2 m c e ts j r)
 | .lst ts,_,_,j,r=>by
  cases r with
  | lst s r=>exact .lst (SqL.of (by rw[j _ SS];exact s)) (bP2 m c e ts (λb h=>j b (by simp[h])) r)
 | .dic kvs,_,_,j,r=>by
  cases r with
  | dic s k Y X=>
   show Rep K H' _ (dD kvs)
   unfold dD;split
   .rename_i f;exact .dic (by rw[j _ SS];exact s) (bS8 e (dB8 f k Y X)) rfl
   .exact .ptr
theorem bP2 (c:Same Z H)(j:∀a xs,Rd H a (.tup xs)->Rd H' a (.tup xs))(e:Same Z H'):∀(ts:List OT) {vs:List V} {L:AM},(∀b∈L,H' b=H b)->Dps K Z H vs ts L->Reps K H' vs (OT.datas ts)
 | [],_,_,_,r=>by cases r;exact .nil
 | t::ts,_,_,hl,r=>by
  cases r with
  | cons a b=>exact .cons (aZ2 c j e t (λb h=>hl b (by simp[h])) a) (bP2 c j e ts (λb h=>hl b (by simp[h])) b)
end
theorem Dp.mono (r:Dp K Z H v t L)(c:Same Z Z')(h:Same H H'):Dp K Z' H' v t L:=
 aG9 c (λ_ _=>l4 h) t (λb j=>by obtain⟨xs,e⟩:=aB8 t r b j;rw[e];exact h _ _ e) r
end
inductive Sl where
 | no | val (d:PyData) | own (ds:AG) | bor (d:PyData) | tr (t:OT)
def Sl.os:Sl->Bool
 | .own _=>true
 | .tr _=>true
 | _=>false
def E3 (ρ:List Sl)(o:Nat->AM)(S:Addr->Prop)(b:Addr):Prop:=S b\/∃(i:Nat) (x:Sl),ρ[i]? = some x/\x.os=true/\b∈o i
structure Env (K:Frag)(S:Addr->Prop)(B H:Hp)(σ:St)(ρ:List Sl)(o:Nat->AM):Prop where
 len:σ.length=ρ.length
 base:Same B H
 sl:∀b,S b->∃u:HM,B b=some u.ho
 new:∀(i:Nat) (x:Sl),ρ[i]? = some x->x.os=true->∀b∈o i,B b=none
 inj:∀(i j:Nat) (x y:Sl),ρ[i]? = some x->ρ[j]? = some y->x.os=true->y.os=true->∀b,b∈o i->b∈o j->i=j
 own:∀(i:Nat) (ds:AG),ρ[i]? = some (.own ds)->∃p,o i=[p]/\σ[i]? = some (some (.ref p))/\∃xs,H p=some (.lst xs)/\Reps K (hid (E3 ρ o S) H) xs ds
 val:∀(i:Nat) (d:PyData),ρ[i]? = some (.val d)->∃v,σ[i]? = some (some v)/\Rep K (hid (E3 ρ o S) H) v d
 bor:∀(i:Nat) (d:PyData),ρ[i]? = some (.bor d)->∃v,σ[i]? = some (some v)/\Rep K H v d
 tr:∀(i:Nat) (t:OT),ρ[i]? = some (.tr t)->(o i).Nodup/\∃v,σ[i]? = some (some v)/\Dp K (hid (E3 ρ o S) H) H v t (o i)
section
theorem Env.grow (e:Env K S B H σ ρ o)(h:Same H H'):Env K S B H' σ ρ o:=
 ⟨e.len,L2.Same.tr e.base h,e.sl,e.new,e.inj,λi ds z=>by
  obtain⟨p,j,a,xs,b,c⟩:=e.own i ds z;exact⟨p,j,a,xs,h _ _ b,c.mono (K7 h)⟩,λi d z=>by
  obtain⟨v,a,b⟩:=e.val i d z;exact⟨v,a,b.mono (K7 h)⟩,λi d z=>by
  obtain⟨v,a,b⟩:=e.bor i d z;exact⟨v,a,b.mono h⟩,λi t z=>by
  obtain⟨n,v,a,b⟩:=e.tr i t z;exact⟨n,v,a,b.mono (K7 h) h⟩⟩
theorem Env.lists (e:Env K S B H σ ρ o):∀b,E3 ρ o S b->∃u:HM,H b=some u.ho:=λb z=>by
 rcases z with z | ⟨i,x,z,c,j⟩
 .obtain⟨xs,q⟩:=e.sl b z;exact⟨xs,e.base _ _ q⟩
 .cases x with
  | own ds=>
   obtain⟨p,s,_,xs,q,_⟩:=e.own i ds z;rw[s]at j;exact⟨.l xs,by rw[Ad8.mp j];exact q⟩
  | tr t=>
   obtain⟨_,v,_,q⟩:=e.tr i t z;exact aB8 t q b j
  | _=>cases c
theorem Env.imm (e:Env K S B H σ ρ o)(i:imm d=true)(r:Rep K H v d):Rep K (hid (E3 ρ o S) H) v d:=
 bL9 (λ_ _ q=>w6 e.lists q) d i r
def cQ0 (ρ:List Sl)(o:Nat->AM)(b:Addr):Prop:=∃(i:Nat) (x:Sl),ρ[i]? = some x/\x.os=true/\b∈o i
theorem Env.rebase (e:Env K S B H σ ρ o):Env K S (hid (cQ0 ρ o) H) H σ ρ o/\Same B (hid (cQ0 ρ o) H):=by
 have s:Same B (hid (cQ0 ρ o) H):=λb x q=>
  hid_some.mpr ⟨(λ⟨i,y,z,m,j⟩=>by rw[e.new i y z m b j]at q;cases q),e.base b x q⟩
 refine⟨⟨e.len,O1,λb z=>?_,λi x z c b j=>?_,e.inj,e.own,e.val,e.bor,e.tr⟩,s⟩
 .obtain⟨xs,q⟩:=e.sl b z;exact⟨xs,s _ _ q⟩
 .exact Ac ⟨i,x,z,c,j⟩
end
noncomputable def vw (m:Bool)(S:Addr->Prop)(H:Hp):Hp:=match m with | true=>hid S H | false=>H
def E (K:Frag)(m:Bool)(t:TE)(ρ:List Sl)(d:PyData):Prop:=
 ∀(S:Addr->Prop) (B:Hp) (σ:St) (H:Hp) (o:Nat->AM),Env K S B H σ ρ o->∀Q:VK,(∀v H',Same H H'->Rep K (vw m (E3 ρ o S) H') v d->Q v H')->t σ H Q
def EF (K:Frag)(t:TE)(ρ:List Sl)(ds:AG):Prop:=
 ∀(S:Addr->Prop) (B:Hp) (σ:St) (H:Hp) (o:Nat->AM),Env K S B H σ ρ o->∀Q:VK,
  (∀p xs H',Same H H'->H p=none->H' p=some (.lst xs)->Reps K (hid (λb=>E3 ρ o S b\/b=p) H') xs ds->Q (.ref p) H')->t σ H Q
def T (K:Frag)(t:TT)(ρ:List Sl)(b:Bool):Prop:=
 ∀(S:Addr->Prop) (B:Hp) (σ:St) (H:Hp) (o:Nat->AM),Env K S B H σ ρ o->∀Q:Bool->Hp->Prop,(∀H',Same H H'->Q b H')->t σ H Q
def A (K:Frag)(m:Bool)(t:TA)(ρ:List Sl)(ds:AG):Prop:=
 ∀(S:Addr->Prop) (B:Hp) (σ:St) (H:Hp) (o:Nat->AM),Env K S B H σ ρ o->∀Q:List V->Hp->Prop,(∀vs H',Same H H'->Reps K (vw m (E3 ρ o S) H') vs ds->Q vs H')->t σ H Q
structure Wk (K:Frag)(Z:Hp)(J:It)(ds:AG):Prop where
 stop:∀i H,Same Z H->ds.length<=i->J.stop i H
 go:∀i H d,Same Z H->ds[i]? = some d->J.go i H
 yld:∀i H d x H',Same Z H->ds[i]? = some d->J.yld i H x H'->Same H H'/\∀S:Addr->Prop,(∀b,S b->Z b=none/\H b≠none)->Rep K (hid S H') x d
def I (K:Frag)(m:Bool)(wi:TI)(ρ:List Sl)(ds:AG):Prop:=
 ∀(S:Addr->Prop) (B:Hp) (σ:St) (H:Hp) (o:Nat->AM),Env K S B H σ ρ o->∀R:It->Hp->Prop,(∀J H',Same H H'->Wk K (vw m (E3 ρ o S) H') J ds->R J H')->wi σ H R
def G (K:Frag)(m:Bool)(g:TG)(d:PyData)(ρ ρ':List Sl):Prop:=(∀(o:Nat->AM) (S:Addr->Prop) (b:Addr),E3 ρ' o S b->E3 ρ o S b) /\
 ∀(S:Addr->Prop) (B:Hp) (σ:St) (H:Hp) (o:Nat->AM),Env K S B H σ ρ o->∀v,Rep K (vw m (E3 ρ o S) H) v d->∀Q:St->Hp->Prop,(∀σ',Env K S B H σ' ρ' o->Q σ' H)->g v σ H Q
def Gs (K:Frag)(m:Bool)(g:TGs)(ds:AG)(ρ ρ':List Sl):Prop:=(∀(o:Nat->AM) (S:Addr->Prop) (b:Addr),E3 ρ' o S b->E3 ρ o S b) /\
 ∀(S:Addr->Prop) (B:Hp) (σ:St) (H:Hp) (o:Nat->AM),Env K S B H σ ρ o->∀vs,Reps K (vw m (E3 ρ o S) H) vs ds->∀Q:St->Hp->Prop,(∀σ',Env K S B H σ' ρ' o->Q σ' H)->g vs σ H Q
structure AE where
 nx:List Sl->Prop
 rt:PyData->Prop:=λ_=>False
 rl:AG->Prop:=λ_=>False
 bk:List Sl->Prop:=λ_=>False
 ct:List Sl->Prop:=λ_=>False
structure Sat (K:Frag)(S:Addr->Prop)(B:Hp)(R:AE)(D:bF1):Prop where
 nx:∀ρ' σ' H' o',Env K S B H' σ' ρ' o'->R.nx ρ'->D.nx σ' H'
 rt:∀v d H',Same B H'->Rep K (hid S H') v d->R.rt d->D.rt v H'
 rl:∀p xs ds H',Same B H'->B p=none->H' p=some (.lst xs)->Reps K (hid (λb=>S b\/b=p) H') xs ds->R.rl ds->D.rt (.ref p) H'
 bk:∀ρ' σ' H' o',Env K S B H' σ' ρ' o'->R.bk ρ'->D.bk σ' H'
 ct:∀ρ' σ' H' o',Env K S B H' σ' ρ' o'->R.ct ρ'->D.ct σ' H'
def W (K:Frag)(t:TS)(ρ:List Sl)(R:AE):Prop:=
 ∀(S:Addr->Prop) (B:Hp) (D:bF1) (σ:St) (H:Hp) (o:Nat->AM),Env K S B H σ ρ o->Sat K S B R D->t D σ H
section
theorem aL1:Same (vw m S H) H:=by cases m;exact L2.Same.rf _;exact O1
theorem aW6 (h:Same H H'):Same (vw m S H) (vw m S H'):=by cases m;exact h;exact K7 h
theorem E.bor (h:E K true t ρ d):E K m t ρ d:=λS B σ H o I Q q=>h S B σ H o I Q λv e s r=>q v e s (by cases m;exact r.mono O1;exact r)
theorem E.imm (h:E K m t ρ d)(i:imm d=true:=by rfl):E K true t ρ d:=λS B σ H o I Q q=>h S B σ H o I Q λv e s r=>q v e s ((I.grow s).imm i (r.mono aL1))
theorem EF.e' (h:EF K t ρ ds):E K m t ρ (.list ds):=E.bor λS B σ H o I Q q=>h S B σ H o I Q λp xs j s n e r=>q _ _ s
 (.lst (SqL.of (hid_some.mpr ⟨(λz=>by obtain⟨c,y⟩:=I.lists p z;rw[n]at y;cases y),e⟩)) (r.mono (E5 (L2.Same.rf _) λb z _=>.inl z)))
theorem A5 (h:ρ[i]? = some (.val d)):E K m (F6 i) ρ d:=E.bor λS B σ H o I Q q=>by
 obtain⟨v,a,b⟩:=I.val i d h;exact⟨v,a,q v H (L2.Same.rf _) b⟩
theorem G9 (h:ρ[i]? = some (.own ds)):E K false (F6 i) ρ (.list ds):=λS B σ H o I Q q=>by
 obtain⟨p,e,a,xs,b,c⟩:=I.own i ds h;exact⟨_,a,q _ H (L2.Same.rf _) (.lst (SqL.of b) (c.mono O1))⟩
theorem eG5 {t:OT}(h:ρ[i]? = some (.tr t)):E K false (F6 i) ρ t.data:=λS B σ H o I Q q=>by
 obtain⟨_,v,a,b⟩:=I.tr i t h;exact⟨_,a,q _ H (L2.Same.rf _) (aZ2 O1 (λ_ _ z=>z) O1 t (λ_ _=>rfl) b)⟩
theorem aN9 (h:ρ[i]? = some (.bor d)):E K false (F6 i) ρ d:=λS B σ H o I Q q=>by
 obtain⟨v,a,b⟩:=I.bor i d h;exact⟨v,a,q v H (L2.Same.rf _) b⟩
theorem bR2 (h:∀H,Rep K H v d):E K m (tC v) ρ d:=λS B σ H o I Q q=>q v H (L2.Same.rf _) (h _)
theorem B0:E K m (tC (.int i)) ρ (.int i):=bR2 λ_=>.int i
theorem bS0:E K m (tC (.bl b)) ρ (.bool b):=bR2 λ_=>.bl b
theorem cD4 (c Y:Bool)(U:E K c ta ρ d)(J:E K Y tb ρ d')
  (M:∀(S:Addr->Prop) (H:Hp) (x y:V) (Q:VK),(∀b,S b->∃u:HM,H b=some u.ho)->Rep K (vw c S H) x d->Rep K (vw Y S H) y d'->(∀v H',Same H H'->Rep K (vw m S H') v f->Q v H')->r x y H Q):E K m (tOp r ta tb) ρ f:=
 λS B σ H o I Q q=>U S B σ H o I _ λx H1 e R=>J S B σ H1 o (I.grow e) _ λy X j D=>
  M (E3 ρ o S) X x y Q ((I.grow e).grow j).lists (R.mono (aW6 j)) D λv H' s r=>q v H' (L2.Same.tr e (L2.Same.tr j s)) r
theorem bW7 (e:E K false ta ρ (.int i))(c:E K false tb ρ (.int j))(s:∀(H:Hp) (Q:VK),(∀v,(∀H,Rep K H v f)->Q v H)->r (.int i) (.int j) H Q):E K m (tOp r ta tb) ρ f:=
 cD4 false false e c λS H x y Q _ Y X q=>by
  cases Y;cases X
  exact s H Q λv r=>q v H (L2.Same.rf _) (r _)
theorem L8 {g:Int->Int->Int}(e:E K false ta ρ (.int i))(c:E K false tb ρ (.int j)):E K m (tOp (rI0 λi j=>.int (g i j)) ta tb) ρ (.int (g i j)):=
 bW7 e c λH Q q=>⟨i,j,rfl,rfl,q _ λ_=>.int _⟩
theorem e_i {g:Int->Int->Int}(e:E K false ta ρ (.int i))(c:E K false tb ρ (.int j))(s:C i j):E K m (tOp (rI C λi j=>.int (g i j)) ta tb) ρ (.int (g i j)):=
 bW7 e c λH Q q=>⟨i,j,rfl,rfl,s,q _ λ_=>.int _⟩
theorem aB2 {g:Int->Int->Bool}(e:E K false ta ρ (.int i))(c:E K false tb ρ (.int j)):E K m (tOp (rI0 λi j=>.bl (g i j)) ta tb) ρ (.bool (g i j)):=
 bW7 e c λH Q q=>⟨i,j,rfl,rfl,q _ λ_=>.bl _⟩
end
end LV
namespace LV
open PySem L2
section
theorem cY0 (r:Reps K H xs ds)(e:atI ds i=some d):∃v,atI xs i=some v/\Rep K H v d:=by
 unfold atI at e ⊢;rw[r.length];cases h:ixN ds.length i with
 | none=>rw[h]at e;cases e
 | some j=>rw[h]at e;exact r.get' (by simpa using e)
def sq:PyData->Option (AG)
 | .list ds=>some ds
 | .tuple ds=>some ds
 | _=>none
theorem D8 (c:E K m ta ρ d)(Y:E K false tb ρ (.int i))(j:sq d=some ds)(h:atI ds i=some d'):E K m (tOp (rIx K) ta tb) ρ d':=
 cD4 m false c Y λS H x y Q _ X U q=>by
  cases U;cases X with
  | lst s r=>
   cases j
   obtain⟨v,h1,e⟩:=cY0 r h;exact .inl ⟨_,_,i,v,rfl,rfl,O6 aL1 s,h1,q v H (L2.Same.rf _) e⟩
  | tup s r=>
   cases j
   obtain⟨v,h1,e⟩:=cY0 r h;exact .inr (.inl ⟨_,_,i,v,rfl,rfl,F7 aL1 s,h1,q v H (L2.Same.rf _) e⟩)
  | _=>cases j
theorem M6 {i:Int}{v:α}(n:Nat)(e:i=n)(h:xs[n]? = some v):atI xs i=some v:=by
 subst e;unfold atI ixN
 have:=(Ab0.mp h).1
 rw[Ac SS,Ac XX]
 simpa using h
theorem aM6 {v:α}:atI (xs++[v]) (-1)=some v:=by
 unfold atI ixN;rw[Ab LL,Ac QQ]
 have:((-1:Int)+((xs++[v]).length)).toNat=xs.length:=by simp;lia
 rw[this];simp
theorem A7:A K m R3 ρ []:=λS B σ H o I Q q=>q [] H (L2.Same.rf _) .nil
theorem A3 (s:E K m ta ρ d)(Y:A K m tr ρ ds):A K m (E8 ta tr) ρ (d::ds):=λS B σ H o I Q q=>
 s S B σ H o I _ λx H1 e X=>Y S B σ H1 o (I.grow e) _ λxs c j rs=>q _ c (L2.Same.tr e j) (.cons (X.mono (aW6 j)) rs)
theorem D9 (h:H p=none):Same H (upd H p o):=λb x e=>by
 have:b≠p:=λz=>by rw[z,h]at e;cases e
 rw[C1 this];exact e
theorem G0 {t:TA}(h:A K m t ρ ds)(j:ds.length<=sizeLine:=by first | decide | (unfold sizeLine;simp)):E K m (bQ4 t) ρ (.tuple ds):=λS B σ H o I Q q=>h S B σ H o I _ λxs H1 e rs=>⟨by rw[rs.length];exact j,λp hp=>by
 have g:=D9 (o:=.tup xs) hp
 refine q _ _ (L2.Same.tr e g) (.tup (.inl (.inl ?_)) (rs.mono (aW6 g)));cases m with
 | false=>exact C7
 | true=>exact hid_some.mpr ⟨(λz=>by obtain⟨c,y⟩:=(I.grow e).lists p z;rw[hp]at y;cases y),C7⟩⟩
theorem bJ9 (j:∀b,S b->∃u:HM,H b=some u.ho)(hp:H p=none)(r:Reps K (hid S H) xs ds):Reps K (hid (λb=>S b\/b=p) (upd H p (.lst ys))) xs ds:=
 r.mono (E5 (D9 hp) λb z n=>z.elim id λe=>absurd (by rw[e];exact hp) n)
theorem E6 {t:TA}(h:A K true t ρ ds)(c:ds.length<=sizeLine:=by first | decide | (unfold sizeLine;simp)):EF K (dR1 t) ρ ds:=λS B σ H o I Q q=>h S B σ H o I _ λxs H1 j rs=>⟨by rw[rs.length];exact c,λp hp=>
 q p xs _ (L2.Same.tr j (D9 hp)) (by cases e:H p with | none=>rfl | some x=>rw[j _ _ e]at hp;cases hp) C7 (bJ9 (I.grow j).lists hp rs)⟩
def spV (K:Frag)(pre:AG->PyData->Prop):Sp:=λvs H Q _=>∃(ds:AG) (S:Addr->Prop) (d:PyData),(∀b,S b->∃u:HM,H b=some u.ho)/\Reps K (hid S H) vs ds/\pre ds d /\
 ∀v H',Same H H'->Rep K (hid S H') v d->Q v H'
def spL (K:Frag)(pre:AG->AG->Prop):Sp:=λvs H Q _=>∃(ds:AG) (S:Addr->Prop) (es:AG),(∀b,S b->∃u:HM,H b=some u.ho)/\Reps K (hid S H) vs ds/\pre ds es /\
 ∀p xs H',Same H H'->H p=none->H' p=some (.lst xs)->Reps K (hid (λb=>S b\/b=p) H') xs es->Q (.ref p) H'
theorem cV1:hid (λ_=>False) H=H:=by funext b;exact Ab id
theorem C6 {t:TA}(c:A K true t ρ ds)(hp:pre ds d):E K m (o6 (spV K pre) [] X t) ρ d:=E.bor λS B σ H o I Q q=>
 c S B σ H o I _ λvs H1 e rs=>⟨ds,E3 ρ o S,d,(I.grow e).lists,by rw[Bf];exact rs,hp,λv j s r=>q v j (L2.Same.tr e s) r⟩
theorem W6 (s:Same H H1)(h:H1 p=none):H p=none:=by
 cases e:H p with
 | none=>rfl
 | some x=>rw[s _ _ e]at h;cases h
theorem M4 {t:TA}(m:A K true t ρ ds)(hp:pre ds es):EF K (o6 (spL K pre) [] X t) ρ es:=λS B σ H o I Q q=>
 m S B σ H o I _ λvs H1 j rs=>⟨ds,E3 ρ o S,es,(I.grow j).lists,by rw[Bf];exact rs,hp,λp xs c s n e r=>q p xs c (L2.Same.tr j s) (W6 j n) e r⟩
theorem C2 (h:E K false t ρ (.bool b)):T K (dM8 t) ρ b:=λS B σ H o I Q q=>h S B σ H o I _ λv e s r=>by cases r;exact⟨b,rfl,q e s⟩
theorem t_b (h:E K false t ρ (.bool b)):T K (tB t) ρ b:=λS B σ H o I Q q=>h S B σ H o I _ λv e s r=>by cases r;exact⟨b,rfl,q e s⟩
theorem aM5 (h:T K u ρ a)(c:a=true->T K w ρ b):T K (eC9 u w) ρ (a&&b):=λS B σ H o I Q q=>h S B σ H o I _ λH1 e=>by
 cases a with
 | false=>exact q H1 e
 | true=>exact c rfl S B σ H1 o (I.grow e) _ λj s=>q j (L2.Same.tr e s)
theorem bZ9 (h:T K u ρ a)(c:a=false->T K w ρ b):T K (tOr u w) ρ (a||b):=λS B σ H o I Q q=>h S B σ H o I _ λH1 e=>by
 cases a with
 | true=>exact q H1 e
 | false=>exact c rfl S B σ H1 o (I.grow e) _ λj s=>q j (L2.Same.tr e s)
theorem aB1 (h:T K u ρ a):T K (eB5 u) ρ (!a):=λS B σ H o I Q q=>h S B σ H o I _ q
theorem cQ9 (h:E K false ta ρ (.bool a))(c:a=true->E K false tb ρ (.bool b)):E K m (dK5 ta tb) ρ (.bool (a&&b)):=E.bor (E.imm λS B σ H o I Q q=>h S B σ H o I _ λv H1 e r=>by
 cases r
 refine⟨a,rfl,?_⟩;cases a with
 | false=>exact q _ H1 e (.bl _)
 | true=>exact c rfl S B σ H1 o (I.grow e) _ λv j s r=>q v j (L2.Same.tr e s) r)
theorem eF1 (h:E K false ta ρ (.bool a)):E K m (dN6 ta) ρ (.bool (!a)):=E.bor (E.imm (m:=false) λS B σ H o I Q q=>h S B σ H o I _ λv H1 e r=>by
 cases r
 exact⟨a,rfl,q _ H1 e (.bl _)⟩)
theorem eB8 (h:T K u ρ a)(h1:a=true->E K m ta ρ d)(s:a=false->E K m tb ρ d):E K m (tIf u ta tb) ρ d:=λS B σ H o I Q q=>h S B σ H o I _ λH1 e=>by
 cases a with
 | true=>exact h1 rfl S B σ H1 o (I.grow e) _ λv j c r=>q v j (L2.Same.tr e c) r
 | false=>exact s rfl S B σ H1 o (I.grow e) _ λv j c r=>q v j (L2.Same.tr e c) r
theorem dD6 (s:SqL K Z a xs)(r:Reps K Z xs ds):Wk K Z (Itl K a) ds where
 stop:=λi H h l=>⟨xs,O6 h s,by rw[r.length];exact l⟩
 go:=λi H d h e=>by
  obtain⟨v,h1,_⟩:=r.get' e;exact⟨xs,v,O6 h s,h1⟩
 yld:=λi H d x m h e y=>by
  obtain⟨rfl,y⟩:=y
  have:=y xs (O6 h s)
  obtain⟨Y,h1,j⟩:=r.get this;rw[e]at h1;cases h1;refine⟨L2.Same.rf _,λS c=>j.mono λb o q=>hid_some.mpr ⟨λz=>?_,h b o q⟩⟩
  rw[(c b z).1]at q;cases q
theorem dU0 (s:SqT K Z a xs)(r:Reps K Z xs ds):Wk K Z (Itt K a) ds where
 stop:=λi H h l=>⟨xs,F7 h s,by rw[r.length];exact l⟩
 go:=λi H d h e=>by
  obtain⟨v,h1,_⟩:=r.get' e;exact⟨xs,v,F7 h s,h1⟩
 yld:=λi H d x m h e y=>by
  obtain⟨rfl,y⟩:=y
  have:=y xs (F7 h s)
  obtain⟨Y,h1,j⟩:=r.get this;rw[e]at h1;cases h1;refine⟨L2.Same.rf _,λS c=>j.mono λb o q=>hid_some.mpr ⟨λz=>?_,h b o q⟩⟩
  rw[(c b z).1]at q;cases q
def S6 (lo:Int)(n:Nat):AG:=(List.range n).map λ(i:Nat)=>PyData.int (lo+(i:Int))
theorem cT0:Wk K Z (Itr lo n) (S6 lo n) where
 stop:=λi H h l=>by
  have:n<=i:=by simpa[S6]using l
  exact this
 go:=λi H d h e=>by
  have:=(Ab0.mp e).1
  have:i<n:=by simpa[S6]using this
  exact this
 yld:=λi H d x c h e y=>by
  obtain⟨rfl,rfl⟩:=y
  have:d=.int (lo+i):=by
   have hi:=(Ab0.mp e).1
   have j:i<n:=by simpa[S6]using hi
   unfold S6 at e;rw[Aa9,List.getElem?_range j]at e;exact(Ab4 e).symm
  subst this;exact⟨L2.Same.rf _,λS s=>.int _⟩
theorem T7 (h:E K m t ρ (.list ds)):I K m (dK7 K t) ρ ds:=λS B σ H o J R q=>h S B σ H o J _ λv H1 e r=>by
 cases r with
 | lst s r=>exact⟨_,rfl,⟨_,O6 aL1 s⟩,q _ H1 e (dD6 s r)⟩
theorem W3 (h:E K m t ρ (.tuple ds)):I K m (eE5 K t) ρ ds:=λS B σ H o J R q=>h S B σ H o J _ λv H1 e r=>by
 cases r with
 | tup s r=>exact⟨_,rfl,⟨_,F7 aL1 s⟩,q _ H1 e (dU0 s r)⟩
theorem T4 {t:TA}(h:A K false t ρ [.int j])(h1 : -(2^62)<=j)(e:j<2^62):I K m (dO0 t) ρ (S6 0 j.toNat):=λS B σ H o J R q=>h S B σ H o J _ λvs H1 c r=>by
 cases r with
 | cons a b=>cases a;cases b;exact⟨j,rfl,h1,e,q _ H1 c cT0⟩
theorem bZ4 {t:TA}(h:A K false t ρ [.int i,.int j])(e : -(2^62)<=i/\i<2^62 /\ -(2^62)<=j/\j<2^62):I K m (dK9 t) ρ (S6 i (j-i).toNat):=λS B σ H o J R q=>h S B σ H o J _ λvs H1 c r=>by
 cases r with
 | cons a b=>cases a;cases b with | cons a b=>cases a;cases b;exact⟨i,j,rfl,e,q _ H1 c cT0⟩
theorem aX3 (m:x.os=false)(z:E3 (ρ.set i x) o S b):E3 ρ o S b:=by
 rcases z with z | ⟨j,y,h,s,e⟩
 .exact .inl z
 .refine .inr ⟨j,y,?_,s,e⟩;rw[List.getElem?_set]at h;by_cases c:i=j
  .rw[Ac c]at h;split at h
   .rw[<- Ab4 h,m]at s;cases s
   .cases h
  .rw[Ab c]at h;exact h
def slot (m:Bool)(d:PyData):Sl:=match m with | true=>.val d | false=>.bor d
theorem Env.set (I:Env K S B H σ ρ o)(i:Nat)(r:Rep K (vw m (E3 ρ o S) H) v d):Env K S B H (σ.set i (some v)) (ρ.set i (slot m d)) o:=by
 have nx:(slot m d).os=false:=by cases m <;> rfl
 have X:∀{x:Sl},x.os=true->x≠slot m d:=λ{x} h e=>by rw[e,nx]at h;cases h
 have at_:∀{j:Nat} {x:Sl},x≠slot m d->(ρ.set i (slot m d))[j]? = some x->i≠j/\ρ[j]? = some x:=λ{j x} s h=>by
  rw[List.getElem?_set]at h;by_cases c:i=j
  .rw[Ac c]at h;split at h
   .exact absurd (Ab4 h).symm s
   .cases h
  .rw[Ab c]at h;exact⟨c,h⟩
 have g:Same (hid (E3 ρ o S) H) (hid (E3 (ρ.set i (slot m d)) o S) H):=E5 (L2.Same.rf _) λb z _=>aX3 nx z
 refine⟨by simp[I.len],I.base,I.sl,λj x h s=>I.new j x (at_ (X s) h).2 s,λj k x y h M s J=>I.inj j k x y (at_ (X s) h).2 (at_ (X J) M).2 s J,λj ds h=>?_,λj U h=>?_,λj U h=>?_,λj t h=>?_⟩
 .obtain⟨c,h⟩:=at_ (X rfl) h;obtain⟨p,R,a,xs,b,Q⟩:=I.own j ds h;exact⟨p,R,by rw[Ad0 c];exact a,xs,b,Q.mono g⟩
 .by_cases c:i=j
  .subst c;have Y:i<ρ.length:=by
    have:=(Ab0.mp h).1
    simpa using this
   rw[Bg (by simpa using Y)]at h
   cases m with
   | false=>simp[slot]at h
   | true=>
    simp[slot]at h;subst h
    exact⟨v,Bg (by rw[I.len];exact Y),r.mono g⟩
  .rw[Ad0 c]at h;obtain⟨u,a,b⟩:=I.val j U h;exact⟨u,by rw[Ad0 c];exact a,b.mono g⟩
 .by_cases c:i=j
  .subst c;have Y:i<ρ.length:=by
    have:=(Ab0.mp h).1
    simpa using this
   rw[Bg (by simpa using Y)]at h
   cases m with
   | true=>simp[slot]at h
   | false=>
    simp[slot]at h;subst h
    exact⟨v,Bg (by rw[I.len];exact Y),r⟩
  .rw[Ad0 c]at h;obtain⟨u,a,b⟩:=I.bor j U h;exact⟨u,by rw[Ad0 c];exact a,b⟩
 .obtain⟨c,h⟩:=at_ (X rfl) h;obtain⟨n,u,a,b⟩:=I.tr j t h;exact⟨n,u,by rw[Ad0 c];exact a,b.mono g (L2.Same.rf _)⟩
theorem dE2:(slot m d).os=false:=by cases m <;> rfl
theorem B6:G K m (F4 i) d ρ (ρ.set i (slot m d)):=⟨λo S b z=>aX3 dE2 z,λS B σ H o I v r Q q=>q _ (I.set i r)⟩
theorem Z4:Gs K m bN2 [] ρ ρ:=⟨λ_ _ _ z=>z,λS B σ H o I vs r Q q=>by cases r;exact⟨rfl,q σ I⟩⟩
theorem dQ7 (h:∀(o:Nat->AM) (S:Addr->Prop) (b:Addr),E3 ρ' o S b->E3 ρ o S b):Same (vw m (E3 ρ o S) H) (vw m (E3 ρ' o S) H):=by
 cases m with
 | false=>exact L2.Same.rf _
 | true=>exact E5 (L2.Same.rf _) λb z _=>h o S b z
theorem G4 (h:G K m g d ρ ρ1)(e:Gs K m gs ds ρ1 ρ'):Gs K m (p4 g gs) (d::ds) ρ ρ':=⟨λo S b z=>h.1 o S b (e.1 o S b z),λS B σ H o I vs r Q q=>by
 cases r with
 | cons a b=>exact⟨_,_,rfl,h.2 S B σ H o I _ a _ λc j=>e.2 S B c H o j _ (b.mono (dQ7 h.1)) _ q⟩⟩
theorem aD5 (h:Gs K m gs ds ρ ρ')(e:ds.length=n:=by rfl):G K m (cC4 K n gs) (.tuple ds) ρ ρ':=⟨h.1,λS B σ H o I v r Q q=>by
 cases r with
 | tup s r=>exact⟨_,_,rfl,F7 aL1 s,by rw[r.length];exact e,h.2 S B σ H o I _ r _ q⟩⟩
theorem B1 {t u:TS}(h:W K t ρ {R with nx:=λρ'=>W K u ρ' R}):W K (dG2 t u) ρ R:=λS B D σ H o I s=>
 h S B {D with nx:=u D} σ H o I ⟨λρ' m e c j w=>w S B D m e c j s,s.rt,s.rl,s.bk,s.ct⟩
theorem G6 (h:R.nx ρ):W K dM0 ρ R:=λS B D σ H o I s=>s.nx ρ σ H o I h
theorem cZ7 (h:E K m t ρ d)(c:G K m g d ρ ρ')(Y:R.nx ρ'):W K (aT8 t g) ρ R:=λS B D σ H o I s=>
 h S B σ H o I _ λv e X r=>c.2 S B σ e o (I.grow X) v r _ λU j=>s.nx _ U e o j Y
theorem F3 (h:E K true t ρ d)(e:R.nx (ρ.set i (.val d))):W K (aT8 t (F4 i)) ρ R:=cZ7 h B6 e
theorem K0 (h:E K true t ρ d)(j:R.rt d):W K (cP4 t) ρ R:=λS B D σ H o I s=>
 h S B σ H o I _ λv e c r=>s.rt v d e (L2.Same.tr I.base c) (r.mono (E5 (L2.Same.rf _) λb z _=>.inl z)) j
theorem aE6 (h:EF K t ρ ds)(c:R.rl ds):W K (cP4 t) ρ R:=λS B D σ H o I s=>
 h S B σ H o I _ λp xs j m n e r=>s.rl p xs ds j (L2.Same.tr I.base m) (W6 I.base n) e (r.mono (E5 (L2.Same.rf _) λb z _=>z.imp .inl id)) c
theorem bQ3 (h:ρ[i]? = some (.own ds))(j:R.rl ds):W K (cP4 (F6 i)) ρ R:=λS B D σ H o I s=>by
 obtain⟨p,hp,a,xs,b,c⟩:=I.own i ds h;exact⟨_,a,s.rl _ xs ds H I.base (I.new i _ h rfl _ (by rw[hp];simp)) b (c.mono (E5 (L2.Same.rf _) λb z _=>z.elim .inl λe=>.inr ⟨i,_,h,rfl,by rw[hp,e];simp⟩)) j⟩
theorem X2 {t u:TS}(h:T K c ρ b)(h1:b=true->W K t ρ R)(m:b=false->W K u ρ R):W K (dH5 c t u) ρ R:=λS B D σ H o I s=>h S B σ H o I _ λe j=>by
 cases b with
 | true=>exact h1 rfl S B D σ e o (I.grow j) s
 | false=>exact m rfl S B D σ e o (I.grow j) s
theorem W.weak {t:TS}(h:W K t ρ R)(h1:∀ρ,R.nx ρ->R'.nx ρ)(J:∀d,R.rt d->R'.rt d)(M:∀d,R.rl d->R'.rl d)(Q:∀ρ,R.bk ρ->R'.bk ρ)(F:∀ρ,R.ct ρ->R'.ct ρ):W K t ρ R':=λS B D σ H o I s=>
 h S B D σ H o I ⟨λX U j Y m w=>s.nx X U j Y m (h1 _ w),λv d j a b c=>s.rt v d j a b (J _ c),λp xs ds j a b c e w=>s.rl p xs ds j a b c e (M _ w),λX U j Y m w=>s.bk X U j Y m (Q _ w),λX U j Y m w=>s.ct X U j Y m (F _ w)⟩
def bL8 (o:Nat->AM)(i:Nat)(L:AM)(j:Nat):AM:=if j=i then L else o j
theorem U8:bL8 o i L i=L:=Ac rfl
theorem S9 (h:i≠j):bL8 o i L j=o j:=Ab λz=>h z.symm
def Holds (K:Frag)(Z H:Hp)(v:V)(x:Sl)(L:AM):Prop:=
 (∃ds p xs,x=.own ds/\L=[p]/\v=.ref p/\H p=some (.lst xs)/\Reps K Z xs ds)\/∃t,x=.tr t/\L.Nodup/\Dp K Z H v t L
theorem Holds.os (h:Holds K Z H v x L):x.os=true:=by
 rcases h with⟨ds,p,xs,rfl,_⟩ | ⟨t,rfl,_⟩ <;> rfl
def cL4 (ρ:List Sl)(o:Nat->AM)(i:Nat)(b:Addr):Prop:=∃y,ρ[i]? = some y/\y.os=true/\b∈o i
theorem Env.put (I:Env K S B H σ ρ o)(i:Nat)(hi:i<ρ.length)(D:Addr->Prop)(hD:∀b,D b->cL4 ρ o i b)
  (F:∀b y,H b=some y->¬D b->H' b=some y) (hL:∀b∈L,cL4 ρ o i b\/H b=none) (hx:Holds K (hid (λb=>E3 ρ o S b\/b∈L) H') H' v x L)
  (nb:(∀b,¬D b)\/∀(j:Nat) (d:PyData),ρ[j]?≠some (Sl.bor d)):Env K S B H' (σ.set i (some v)) (ρ.set i x) (bL8 o i L):=by
 have P:=hx.os
 have at_:∀{j:Nat} {y:Sl},i≠j->(ρ.set i x)[j]? = some y->ρ[j]? = some y:=λ{j y} c h=>by rw[Ad0 c]at h;exact h
 have Y:(ρ.set i x)[i]? = some x:=Bg hi
 have sub:∀b,E3 (ρ.set i x) (bL8 o i L) S b->E3 ρ o S b\/b∈L:=λb z=>by
  rcases z with z | ⟨j,y,h,m,e'⟩
  .exact .inl (.inl z)
  .by_cases c:i=j
   .subst c;rw[U8]at e';exact .inr e'
   .rw[S9 c]at e';exact .inl (.inr ⟨j,y,at_ c h,m,e'⟩)
 have M:∀b,cL4 ρ o i b->E3 ρ o S b:=λb ⟨y,h1,X,U⟩=>.inr ⟨i,y,h1,X,U⟩
 have g:Same (hid (E3 ρ o S) H) (hid (E3 (ρ.set i x) (bL8 o i L) S) H'):=λb y q=>by
  obtain⟨a,q⟩:=hid_some.mp q;refine hid_some.mpr ⟨λz=>?_,F b y q λz=>a (M b (hD b z))⟩
  rcases sub b z with z | z
  .exact a z
  .rcases hL b z with z | z
   .exact a (M b z)
   .rw[z]at q;cases q
 have ht:∀a ys,Rd H a (.tup ys)->Rd H' a (.tup ys):=λa ys r=>by
  have n:¬D a:=λz=>by
   obtain⟨zs,e⟩:=I.lists a (M a (hD a z));rcases r with r | ⟨o,r⟩ <;> rw[e]at r <;> replace r:=Ab4 r
   .exact HM.nt r
   .exact HM.nf r
  rcases r with r | ⟨o,r⟩
  .exact .inl (F _ _ r n)
  .exact .inr ⟨o,F _ _ r n⟩
 have far:∀{j:Nat} {y:Sl},i≠j->ρ[j]? = some y->y.os=true->∀b∈o j,¬D b:=λ{j y} c h m b s z=>by
  obtain⟨w,h1,X,U⟩:=hD b z;exact c (I.inj i j w y h1 h X m b U s)
 have kept:∀{j:Nat} {y:Sl},i≠j->ρ[j]? = some y->y.os=true->∀b∈o j,H' b=H b:=λ{j y} c h m b s=>by
  obtain⟨zs,e⟩:=I.lists b (.inr ⟨j,y,h,m,s⟩);rw[e];exact F _ _ e (far c h m b s)
 have Q:∀{j:Nat} {y:Sl},i≠j->ρ[j]? = some y->y.os=true->∀b∈o j,b∉L:=λ{j y} c h m b s z=>by
  rcases hL b z with⟨w,h1,X,U⟩ | z
  .exact c (I.inj i j w y h1 h X m b U s)
  .obtain⟨zs,e⟩:=I.lists b (.inr ⟨j,y,h,m,s⟩);rw[z]at e;cases e
 have base:=λb y q=>F b y (I.base b y q) λz=>by
  obtain⟨w,h1,X,U⟩:=hD b z;rw[I.new i w h1 X b U]at q;cases q
 refine⟨by simp[I.len],base,I.sl,λj y h m b s=>?_,λj k y z h h' m hz b s J=>?_,λj es h=>?_,λj d' h=>?_,λj d' h=>?_,λj t h=>?_⟩
 .by_cases c:i=j
  .subst c;rw[U8]at s;rcases hL b s with⟨w,h1,X,U⟩ | z
   .exact I.new i w h1 X b U
   .exact W6 I.base z
  .rw[S9 c]at s;exact I.new j y (at_ c h) m b s
 .by_cases c:i=j
  .subst c;by_cases R:i=k
   .exact R
   .rw[U8]at s;rw[S9 R]at J;exact absurd s (Q R (at_ R h') hz b J)
  .by_cases R:i=k
   .subst R;rw[U8]at J;rw[S9 c]at s;exact absurd J (Q c (at_ c h) m b s)
   .rw[S9 c]at s;rw[S9 R]at J;exact I.inj j k y z (at_ c h) (at_ R h') m hz b s J
 .by_cases c:i=j
  .subst c;rw[Y]at h;cases h;rw[U8];rcases hx with⟨ds,p,xs,e,X,U,h4,h5⟩ | ⟨t,e,_⟩
   .cases e
    exact⟨p,X,by rw[Bg (by rw[I.len];exact hi),U],xs,h4,h5.mono (E5 (L2.Same.rf _) λb z _=>sub b z)⟩
   .cases e
  .rw[S9 c];obtain⟨p,o',a,ys,b,r'⟩:=I.own j es (at_ c h);exact⟨p,o',by rw[Ad0 c];exact a,ys,by rw[kept c (at_ c h) rfl p (by rw[o'];simp)];exact b,r'.mono g⟩
 .by_cases c:i=j
  .subst c;rw[Y]at h;cases h;cases P
  .obtain⟨u,a,b⟩:=I.val j d' (at_ c h);exact⟨u,by rw[Ad0 c];exact a,b.mono g⟩
 .by_cases c:i=j
  .subst c;rw[Y]at h;cases h;cases P
  .rcases nb with nb | nb
   .obtain⟨u,a,b⟩:=I.bor j d' (at_ c h);exact⟨u,by rw[Ad0 c];exact a,b.mono λb y q=>F b y q (nb b)⟩
   .exact absurd (at_ c h) (nb j d')
 .by_cases c:i=j
  .subst c;rw[Y]at h;cases h;rw[U8];rcases hx with⟨ds,p,xs,e,_⟩ | ⟨t',e,X,U⟩
   .cases e
   .cases e
    exact⟨X,v,Bg (by rw[I.len];exact hi),U.mono (E5 (L2.Same.rf _) λb z _=>sub b z) (L2.Same.rf _)⟩
  .rw[S9 c];obtain⟨n,u,a,b⟩:=I.tr j t (at_ c h);exact⟨n,u,by rw[Ad0 c];exact a,aG9 g ht t (kept c (at_ c h) rfl) b⟩
theorem Env.setF (I:Env K S B H σ ρ o)(i:Nat)(s:Same H H')(n:H p=none)(e:H' p=some (.lst xs))(r:Reps K (hid (λb=>E3 ρ o S b\/b=p) H') xs ds)(hi:i<ρ.length) :
  Env K S B H' (σ.set i (some (.ref p))) (ρ.set i (.own ds)) (bL8 o i [p]):=
 I.put i hi (λ_=>False) (λ_ z=>z.elim) (λb y q _=>s b y q) (λb z=>.inr (by rw[Ad8.mp z];exact n)) (.inl ⟨ds,p,xs,rfl,rfl,rfl,e,r.mono (E5 (L2.Same.rf _) λb z _=>z.imp id λz=>Ad8.mp z)⟩) (.inl λ_ z=>z)
theorem bD6 {α:Type}{l:List α}{a:α}(h:l[i]? = some a):l.set i a=l:=by
 obtain⟨h1,e⟩:=Ab0.mp h;rw[<- e];exact List.set_getElem_self h1
theorem E1 (h:EF K t ρ ds)(c:R.nx (ρ.set i (.own ds)))(hi:i<ρ.length:=by first | decide | (simp;done) | (simp[LV.sl0];done)):W K (aT8 t (F4 i)) ρ R:=λS B D σ H o I s=>
 h S B σ H o I _ λp xs j m n e r=>s.nx _ _ j _ (I.setF i m n e r hi) c
theorem Env.upd (I:Env K S B H σ ρ o)(h:ρ[i]? = some (.own ds))(hp:o i=[p])(r:Reps K (hid (E3 ρ o S) H) xs es)(nb:∀(j:Nat) (d:PyData),ρ[j]?≠some (Sl.bor d)) :
  Env K S B (upd H p (.lst xs)) σ (ρ.set i (.own es)) (bL8 o i [p]):=by
 have hi:=(Ab0.mp h).1
 obtain⟨X,e,a,U,b,c⟩:=I.own i ds h;rw[hp]at e;cases e;have s:cL4 ρ o i p:=⟨_,h,rfl,by rw[hp];simp⟩
 have os:E3 ρ o S p:=.inr ⟨i,_,h,rfl,by rw[hp];simp⟩
 have:=I.put i hi (λb=>b=p) (λb z=>by rw[z];exact s) (λb y q z=>by rw[C1 z];exact q) (λb z=>.inl (by rw[Ad8.mp z];exact s))
  (.inl ⟨es,p,xs,rfl,rfl,rfl,C7,r.mono λb y q=>by
   obtain⟨m,Y⟩:=hid_some.mp q;refine hid_some.mpr ⟨λz=>m (z.elim id λz=>by rw[Ad8.mp z];exact os),?_⟩
   rw[C1 (λz=>m (by rw[z];exact os))];exact Y⟩) (.inr nb)
 rw[bD6 a]at this;exact this
def O7:List Sl->Bool
 | []=>true
 | .bor _::_=>false
 | _::r=>O7 r
theorem K6:∀{ρ:List Sl},O7 ρ=true->∀(j:Nat) (d:PyData),ρ[j]?≠some (Sl.bor d)
 | [],_,j,d=>by simp
 | .bor _::_,h,_,_=>by cases h
 | .no::r,h,0,d=>by simp
 | .no::r,h,j+1,d=>by simpa using K6 (ρ:=r) h j d
 | .val _::r,h,0,d=>by simp
 | .val _::r,h,j+1,d=>by simpa using K6 (ρ:=r) h j d
 | .own _::r,h,0,d=>by simp
 | .own _::r,h,j+1,d=>by simpa using K6 (ρ:=r) h j d
 | .tr _::r,h,0,d=>by simp
 | .tr _::r,h,j+1,d=>by simpa using K6 (ρ:=r) h j d
theorem J4 (hi:ρ[i]? = some (.own ds))(h:E K true t ρ d)(j:ds.length<sizeLine)(m:R.nx (ρ.set i (.own (ds++[d]))))(nb:O7 ρ=true:=by rfl) :
  W K (bK0 (tBM K "list" aN0 (F6 i) (E8 t R3))) ρ R:=λS B D σ H o I s=>by
 obtain⟨p,hp,a,xs,b,c⟩:=I.own i ds hi;refine⟨_,a,.inl ⟨rfl,xs,SqL.of b⟩,?_⟩;refine h S B σ H o I _ λv Y e r=>?_
 exact⟨_,xs,v,rfl,rfl,e _ _ b,by rw[c.length];exact j,(s.nx _ σ _ _ ((I.grow e).upd hi hp ((c.mono (K7 e)).append (.cons r .nil)) (K6 nb)) m)⟩
theorem bM7 (hi:ρ[i]? = some (.own ds))(hp:o i=[p]):Same (hid (E3 ρ o S) H) (hid (E3 (ρ.set i (.own es)) (bL8 o i [p]) S) (L2.upd H p (.lst xs))):=λY x q=>by
 obtain⟨c,m⟩:=hid_some.mp q;refine hid_some.mpr ⟨λz=>c ?_,?_⟩
 .rcases z with z | ⟨k,y,j,s,e'⟩
  .exact .inl z
  .by_cases e:i=k
   .subst e;rw[U8,<- hp]at e';exact .inr ⟨i,_,hi,rfl,e'⟩
   .rw[Ad0 e]at j;rw[S9 e]at e';exact .inr ⟨k,y,j,s,e'⟩
 .rw[C1 (λz=>c (.inr ⟨i,_,hi,rfl,by rw[hp,z];simp⟩))];exact m
theorem eC1 (hi:ρ[i]? = some (.own (ds++[d])))(J:R.nx ((ρ.set i (.own ds)).set j (.val d)))(nb:O7 ρ=true:=by rfl) :
  W K (aT8 (dV5 K "list" dS3 (F6 i)) (F4 j)) ρ R:=λS B D σ H o I s=>by
 obtain⟨p,hp,a,xs,b,c⟩:=I.own i _ hi;have U:=c.length;obtain⟨y,h1,X⟩:=c.get' (i:=ds.length) (d:=d) SS
 refine⟨_,a,.inl ⟨rfl,xs,SqL.of b⟩,_,xs,y,rfl,rfl,b,?_,?_⟩
 .rw[U];simpa using h1
 .have e:=c.dropLast
  rw[List.dropLast_concat]at e;have Y:=I.upd hi hp e (K6 nb);exact s.nx _ _ _ _ (Env.set (m:=true) Y j (X.mono (bM7 hi hp))) J
theorem N2 {tb:TS}(hi:I K true wi ρ ds)(P:Nat->List Sl->Prop)(h0:P 0 ρ)
  (turn:∀i d ρ',ds[i]? = some d->P i ρ'->∃ρ'',G K true g d ρ' ρ''/\W K tb ρ'' {R with nx:=P (i+1),ct:=P (i+1),bk:=R.nx}) (hn:∀ρ',P ds.length ρ'->R.nx ρ'):W K (eD2 wi g tb) ρ R:=λS B D σ H o I0 s=>
 hi S B σ H o I0 _ λJ H1 s1 wk=>by
  obtain⟨I1,U⟩:=(I0.grow s1).rebase;generalize hB:hid (cQ0 ρ o) H1=B' at I1 U;have sz:Same (hid (E3 ρ o S) H1) B':=λb x q=>by
   obtain⟨q1,q2⟩:=hid_some.mp q;rw[<- hB];exact hid_some.mpr ⟨λz=>q1 (.inr z),q2⟩
  refine⟨λi m σ' H'=>i<=ds.length/\m=ds.length-i/\∃ρ' Q,Env K S B' H' σ' ρ' Q/\P i ρ',⟨_,Br _,rfl,ρ,o,I1,h0⟩,?_⟩
  rintro i k σ' H' ⟨hl,rfl,ρ',Q,Y,p⟩;have zH:=L2.Same.tr sz Y.base;by_cases c:i=ds.length
  .subst c;exact .inl ⟨wk.stop _ _ zH (Aa7 _),s.nx ρ' σ' H' Q ⟨Y.len,L2.Same.tr U Y.base,λb z=>(I0.sl b z),λi ds z hz b hb=>W6 U (Y.new i ds z hz b hb),Y.inj,Y.own,Y.val,Y.bor,Y.tr⟩ (hn ρ' p)⟩
  .have hlt:i<ds.length:=bC1
   have hd:=Aa2 hlt
   obtain⟨ρ'',hg,hb⟩:=turn i ds[i] ρ' hd p;refine .inr ⟨wk.go _ _ _ zH hd,λσ2 H2=>∃ρ2 o2,Env K S B' H2 σ2 ρ2 o2/\P (i+1) ρ2,λσ2 H2 ⟨ρ2,o2,I2,p2⟩=>⟨_,OO,hlt,rfl,ρ2,o2,I2,p2⟩,λx F hy=>?_⟩
   obtain⟨s2,hx⟩:=wk.yld _ _ _ _ _ zH hd hy;have rx:=hx (E3 ρ' Q S) λb z=>by
    obtain⟨ys,y⟩:=Y.lists b z;refine⟨?_,by rw[y];simp⟩
    rcases z with z | ⟨j,es,h',hy,e'⟩
    .exact Ac (.inl z)
    .exact W6 sz (Y.new j es h' hy b e')
   refine hg.2 S B' σ' F Q (Y.grow s2) x rx _ λσ2 I2=>hb S B' _ σ2 F Q I2 ⟨λρ3 σ3 M o3 X w=>⟨ρ3,o3,X,w⟩,λv d M a b w=>s.rt v d M (L2.Same.tr U a) b w,λp xs es M a b c e w=>s.rl p xs es M (L2.Same.tr U a) (W6 U b) c e w,
    λρ3 σ3 M o3 X w=>s.nx ρ3 σ3 M o3 ⟨X.len,L2.Same.tr U X.base,λb z=>(I0.sl b z),λi ds z hz b hb=>W6 U (X.new i ds z hz b hb),X.inj,X.own,X.val,X.bor,X.tr⟩ w,λρ3 σ3 M o3 X w=>⟨ρ3,o3,X,w⟩⟩
theorem aF7 {tb:TS}(P:Nat->List Sl->Prop)(h0:∃k,P k ρ)
  (turn:∀k ρ',P k ρ'->∃b,T K c ρ' b/\if b=true then W K tb ρ' {R with nx:=λρ2=>∃k',k'<k/\P k' ρ2,ct:=λρ2=>∃k',k'<k/\P k' ρ2,bk:=R.nx} else R.nx ρ'):W K (cD1 c tb) ρ R:=λS B D σ H o I0 s=>by
 obtain⟨k0,p0⟩:=h0;refine⟨λk m Y=>∃ρ' j,Env K S B Y m ρ' j/\P k ρ',⟨k0,ρ,o,I0,p0⟩,?_⟩
 rintro k m Y ⟨ρ',j,X,p⟩;obtain⟨b,hc,F⟩:=turn k ρ' p;refine hc S B m Y j X _ λH1 s1=>?_
 cases b with
 | true=>
  exact⟨λσ2 Q=>∃k',k'<k/\∃ρ2 o2,Env K S B Q σ2 ρ2 o2/\P k' ρ2,λσ2 Q ⟨k',e,z⟩=>⟨k',e,z⟩,(F S B _ m H1 j (X.grow s1) ⟨λM σ3 H3 J U ⟨k',e,w⟩=>⟨k',e,M,J,U,w⟩,s.rt,s.rl,s.nx,λM σ3 H3 J U ⟨k',e,w⟩=>⟨k',e,M,J,U,w⟩⟩)⟩
 | false=>
  exact s.nx ρ' m H1 j (X.grow s1) F
end
section
def cap:Sl->Sl
 | .own ds=>.bor (.list ds)
 | .tr t=>.bor t.data
 | x=>x
def slC (ρ:List Sl)(n:Nat)(is:AD):List Sl:=List.replicate n .no++is.map λi=>cap ((ρ[i]?).getD .no)
theorem bM2 (h:(slC ρ n is)[j]? = some x)(s:x≠.no):n<=j/\∃i y,is[j-n]? = some i/\ρ[i]? = some y/\cap y=x:=by
 unfold slC at h;by_cases c:j<n
 .rw[Bs (by simpa using c),Ct,Ac c]at h
  exact absurd (Ab4 h).symm s
 .rw[Cf (by simpa using c),Dg,Aa9]at h
  refine⟨YY,?_⟩
  cases e:is[j-n]? with
  | none=>rw[e]at h;cases h
  | some i=>
   rw[e]at h;have h:cap ((ρ[i]?).getD .no)=x:=Ab4 h;cases e':ρ[i]? with
   | none=>rw[e']at h;exact absurd h.symm s
   | some y=>rw[e']at h;exact⟨i,y,rfl,e',h⟩
theorem dF6 {j:Nat}(h:(slC ρ n is)[j]? = some x):x.os=false:=by
 cases x with
 | own ds=>
  obtain⟨_,i,y,_,_,e⟩:=bM2 h SS
  cases y <;> simp[cap]at e
 | tr t=>
  obtain⟨_,i,y,_,_,e⟩:=bM2 h SS
  cases y <;> simp[cap]at e
 | _=>rfl
theorem aS5 {j:Nat}{P:Prop}(h:(slC ρ n is)[j]? = some x)(e:x.os=true):P:=by rw[dF6 h]at e;cases e
theorem Env.comp (I:Env K S B H σ ρ o)(n:Nat)(is:AD):Env K (E3 ρ o S) H H (stC n is σ) (slC ρ n is) o:=by
 have X:∀(j:Nat) (i:Nat) v,n<=j->is[j-n]? = some i->σ[i]? = some v->(stC n is σ)[j]? = some v:=λj i v s hi M=>by
  unfold stC;rw[Cf (by simpa using s),Dg,Aa9,hi]
  simp[M]
 have g:Same (hid (E3 ρ o S) H) (hid (E3 (slC ρ n is) o (E3 ρ o S)) H):=E5 (L2.Same.rf _) λb z _=>by
  rcases z with z | ⟨j,Y,h,m,_⟩
  .exact z
  .exact aS5 h m
 refine⟨by simp[stC,slC],L2.Same.rf _,I.lists,λj Y h U=>aS5 h U,λj k Y fs h _ U=>aS5 h U,λj Y h=>aS5 h rfl,λj d h=>?_,λj d h=>?_,λj t h=>aS5 h rfl⟩
 .obtain⟨s,i,y,hi,m,e⟩:=bM2 h SS
  cases y with
  | val J=>
   cases e
   obtain⟨v,a,b⟩:=I.val i d m;exact⟨v,X j i _ s hi a,b.mono g⟩
  | _=>simp[cap]at e
 .obtain⟨s,i,y,hi,m,e⟩:=bM2 h SS
  cases y with
  | bor J=>
   cases e
   obtain⟨v,a,b⟩:=I.bor i d m;exact⟨v,X j i _ s hi a,b⟩
  | own Y=>
   cases e
   obtain⟨p,hp,a,xs,b,c⟩:=I.own i Y m;exact⟨_,X j i _ s hi a,.lst (SqL.of b) (c.mono O1)⟩
  | tr t=>
   cases e
   obtain⟨_,v,a,b⟩:=I.tr i t m;exact⟨_,X j i _ s hi a,aZ2 O1 (λ_ _ z=>z) O1 t (λ_ _=>rfl) b⟩
  | _=>simp[cap]at e
def cB9 (K:Frag)(m:Bool)(ρ:List Sl)(g:TG)(tt:TT)(te:TE)(d:PyData)(r:Option PyData):Prop:=
 ∃ρ',G K m g d ρ ρ'/\match r with
  | none=>T K tt ρ' false
  | some y=>T K tt ρ' true/\E K true te ρ' y
theorem F8 (f:PyData->Option PyData)(hi:I K m wi ρ ds)(hl:ds.length<sizeLine)(body:∀d∈ds,cB9 K m (slC ρ n is) g tt te d (f d)):EF K (cD9 wi n is g tt te) ρ (ds.filterMap f):=λS B σ H o I0 Q q=>
 hi S B σ H o I0 _ λJ H1 s1 wk=>by
  have IC:=(I0.grow s1).comp n is
  generalize hS:E3 ρ o S=S' at IC wk q;have lists:∀b,S' b->∃u:HM,H1 b=some u.ho:=by rw[<- hS];exact(I0.grow s1).lists
  refine⟨λi k ys R=>i<=ds.length/\k=ds.length-i/\Same H1 R/\ys.length<=i/\Reps K (hid S' R) ys ((ds.take i).filterMap f),⟨_,Br _,rfl,L2.Same.rf _,Aa7 _,by simpa using Reps.nil⟩,?_⟩
  rintro i k ys R ⟨hil,rfl,Y,hy,r⟩;refine⟨LL,?_⟩
  have zH:Same (vw m S' H1) R:=L2.Same.tr aL1 Y
  by_cases c:i=ds.length
  .subst c;refine .inl ⟨wk.stop _ _ zH (Aa7 _),λD hD=>?_⟩
   rw[Co]at r;exact q D ys _ (L2.Same.tr (L2.Same.tr s1 Y) (D9 hD)) (W6 (L2.Same.tr s1 Y) hD) C7 (bJ9 (λb z=>by obtain⟨xs,e⟩:=lists b z;exact⟨xs,Y _ _ e⟩) hD r)
  .have s:i<ds.length:=bC1
   have hd:=Aa2 s
   have take:(ds.take (i+1)).filterMap f=(ds.take i).filterMap f++(f ds[i]).toList:=by
    rw[Cc s,List.filterMap_append];cases P:f ds[i] <;> simp[Be,P]
   obtain⟨ρ',hg,X⟩:=body ds[i] (Di s);refine .inr ⟨wk.go _ _ _ zH hd,λx F hx=>?_⟩
   obtain⟨s3,hr⟩:=wk.yld _ _ _ _ _ zH hd hx;have I3:=IC.grow (L2.Same.tr Y s3);have eqS:∀b,E3 (slC ρ n is) o S' b->S' b:=λb z=>by
    rcases z with z | ⟨j,es,h,hy,_⟩
    .exact z
    .exact aS5 h hy
   have rx:Rep K (vw m (E3 (slC ρ n is) o S') F) x ds[i]:=by
    cases m with
    | false=>
     have:=hr (λ_=>False) λb z=>z.elim
     rw[cV1]at this;exact this
    | true=>
     refine hr _ λb z=>?_
     have z':=eqS b z
     obtain⟨xs,e⟩:=lists b z';exact⟨by exact Ac z',by rw[Y _ _ e];simp⟩
   refine hg.2 S' H1 _ F o I3 x rx _ λσ4 I4=>?_
   cases P:f ds[i] with
   | none=>
    rw[P]at X take;refine X S' H1 σ4 F o I4 _ λH5 M=>?_
    refine⟨_,LL,s,rfl,L2.Same.tr Y (L2.Same.tr s3 M),zq3,?_⟩
    rw[take];simpa using r.mono (K7 (L2.Same.tr s3 M))
   | some y=>
    rw[P]at X take;refine X.1 S' H1 σ4 F o I4 _ λH5 M=>?_
    refine X.2 S' H1 σ4 H5 o (I4.grow M) _ λv H6 s6 rv=>?_
    have U:=L2.Same.tr s3 (L2.Same.tr M s6)
    refine⟨_,LL,s,rfl,L2.Same.tr Y U,by simp;omega,?_⟩
    rw[take];refine(r.mono (K7 U)).append (.cons (rv.mono (E5 (L2.Same.rf _) λb z _=>.inl z)) .nil)
theorem Z9:T K dY3 ρ true:=λS B σ H o I Q q=>q H (L2.Same.rf _)
def sl0 (n:Nat)(ds:AG):List Sl:=ds.map .val++List.replicate (n-ds.length) .no
theorem env0 (M:∀b,S b->∃u:HM,H b=some u.ho)(r:Reps K (hid S H) vs ds):Env K S H H (L2.Y6 N vs) (sl0 N.length ds) (λ_=>[]):=by
 have Y:∀(j:Nat) (x:Sl),(sl0 N.length ds)[j]? = some x->x=.no\/∃d,ds[j]? = some d/\x=.val d:=λj x h=>by
  unfold sl0 at h;by_cases c:j<ds.length
  .rw[Bs (by simpa using c),Aa9,Aa2 c]at h
   exact .inr ⟨_,Aa2 c,(Ab4 h).symm⟩
  .rw[Cf (by simpa using c),Ct]at h
   split at h
   .exact .inl (Ab4 h).symm
   .cases h
 have s:∀{P:Prop} (j:Nat) (x:Sl),(sl0 N.length ds)[j]? = some x->x.os=true->P:=λj x h X=>by
  rcases Y j _ h with e | ⟨d,_,e⟩ <;> rw[e]at X <;> cases X
 have g:Same (hid S H) (hid (E3 (sl0 N.length ds) (λ_=>[]) S) H):=E5 (L2.Same.rf _) λb z _=>by
  rcases z with z | ⟨j,m,h,R,_⟩
  .exact z
  .exact s j m h R
 refine⟨?_,L2.Same.rf _,M,λj m h X=>s j m h X,λj k m fs h _ X=>s j m h X,λj m h=>s j _ h rfl,λj d h=>?_,λj d h=>?_,λj m h=>s j _ h rfl⟩
 .unfold L2.Y6 sl0;simp[r.length]
 .rcases Y j _ h with e | ⟨U,J,e⟩
  .cases e
  .cases e
   obtain⟨v,a,b⟩:=r.get' J;refine⟨v,?_,b.mono g⟩;unfold L2.Y6
   have:=(Ab0.mp a).1
   rw[Bs (by simpa using this),Aa9,a];rfl
 .rcases Y j _ h with e | ⟨U,_,e⟩ <;> cases e
theorem G1 {t:TS}(c:∀b,S b->∃u:HM,H b=some u.ho)(r:Reps K (hid S H) vs ds)(w:W K t (sl0 N.length ds) {nx:=λ_=>d=.none,rt:=λe=>e=d})
  (k:∀v H',Same H H'->Rep K (hid S H') v d->Q v H'):t {nx:=λ_ H'=>Q .non H',rt:=Q} (L2.Y6 N vs) H:=
 w S H _ _ H _ (env0 c r) ⟨λX U H' Y j z=>k _ H' j.base (by rw[z];exact .non),λv e H' s m z=>k v H' s (by rw[<- z];exact m),λ_ _ _ _ _ _ _ _ z=>z.elim,λ_ _ _ _ _ z=>z.elim,λ_ _ _ _ _ z=>z.elim⟩
theorem Y9 {t:TS}(m:∀b,S b->∃u:HM,H b=some u.ho)(r:Reps K (hid S H) vs ds)(w:W K t (sl0 N.length ds) {nx:=λ_=>False,rl:=λe=>e=es})
  (k:∀p xs H',Same H H'->H p=none->H' p=some (.lst xs)->Reps K (hid (λb=>S b\/b=p) H') xs es->Q (.ref p) H'):t {nx:=λ_ H'=>Q .non H',rt:=Q} (L2.Y6 N vs) H:=
 w S H _ _ H _ (env0 m r) ⟨λU J H' X Y z=>z.elim,λv e H' s j z=>z.elim,λp xs c H' s n e j z=>k p xs H' s n e (by rw[<- z];exact j),λ_ _ _ _ _ z=>z.elim,λ_ _ _ _ _ z=>z.elim⟩
end
end LV
namespace L2
open PySem PySem.Spec PyProof.Rows
section
def CMulB (i j:Int):Prop:=i.natAbs<2^512/\j.natAbs<2^512
theorem cE8 (h:k.natAbs<2^512):Builtin.Int.intBits k<=2^20:=by
 unfold Builtin.Int.intBits;split
 .exact Br _
 .have:k.natAbs.log2<512:=by
   rcases Nat.eq_zero_or_pos k.natAbs with e | hp
   .rw[e];decide
   .exact(Nat.log2_lt (Nat.ne_of_gt hp)).mpr h
  exact dX7
theorem CMulB.ok (h:CMulB i j):IntMulOk i j:=.of_bits (cE8 h.1) (cE8 h.2)
theorem aQ8:OpR X (binaryOp .Mult) (rI CMulB λi j=>.int (i*j)):=opI λ_ _ _ _ _ _ _ e q=>mul_int q e.ok
def bY1:List String:=["int", "bool", "str", "list", "tuple"]
def dT3 (K:Frag)(H:Hp)(T:String):V->Bool->Prop
 | .int _,b=>b=(T == "int")
 | .bl _,b=>b=(T == "int" || T == "bool")
 | .str _,b=>b=(T == "str")
 | .non,b=>b=false
 | .ref p,b=>(∃xs,SqL K H p xs/\b=(T == "list"))\/∃xs,SqT K H p xs/\b=(T == "tuple")
 | _,_=>False
theorem K8 (h:T∈bY1):typeOf (.type T)=pure (.type "type"):=by
 simp  [bY1,Aa1,Ac2,or_false]at h
 rcases h with rfl | rfl | rfl | rfl | rfl
 .exact meta_int
 .exact meta_bool
 .exact meta_str
 .exact meta_list
 .exact meta_tuple
theorem aS1 (h:T∈bY1)(j:s.TypeIs x Tx)(e:isSubtype (.type Tx) (.type T)=pure true)(q:Q (.bool true) s) :
  wpAny (model P w) A (call (.builtin "isinstance") [x,.type T]) Q E s:=Bh (isinstance_true (K8 h) e) ⟨j,q⟩
theorem cW1:Q4 X (.builtin "isinstance") (λxs H Q=>∃x T b,xs=[x,.ty T]/\T∈bY1/\dT3 X.K H T x b/\Q (.bl b) H):=by
 intro D s σ H xs us Q I r h;obtain⟨x,T,b,rfl,j,J,q⟩:=h;cases r with
 | cons M F=>
  cases F with
  | cons B P=>
   cases P;cases B
   have U:EP X D σ Q (.bool b) s:=⟨.bl b,H,I,rfl,q⟩
   have Y:EP X D σ Q (.bool b) {s with toks:=s.toks+1}:=⟨.bl b,H,I.tok _,rfl,q⟩
   have m:=j
   simp  [bY1,Aa1,Ac2,or_false]at m
   cases x with
   | int i=>
    obtain⟨t,rfl⟩:=M;cases J;rcases m with rfl | rfl | rfl | rfl | rfl
    .exact aS1 j (typeIs_int _ _ _) (by kernel_rfl) U
    all_goals exact Bh (isinstance_false_int DD (K8 j) (by kernel_rfl)) Y
   | bl k=>
    cases M
    cases J
    rcases m with rfl | rfl | rfl | rfl | rfl
    .exact aS1 j (PySem.typeIs_bool _ _) (by kernel_rfl) U
    .exact aS1 j (PySem.typeIs_bool _ _) (by kernel_rfl) U
    all_goals exact Bh (isinstance_false_bool DD (K8 j) (by kernel_rfl)) Y
   | str z=>
    obtain⟨t,rfl⟩:=M;cases J;rcases m with rfl | rfl | rfl | rfl | rfl
    .exact Bh (isinstance_false_str DD (K8 j) (by kernel_rfl)) Y
    .exact Bh (isinstance_false_str DD (K8 j) (by kernel_rfl)) Y
    .exact aS1 j (typeIs_str _ _ _) (by kernel_rfl) U
    all_goals exact Bh (isinstance_false_str DD (K8 j) (by kernel_rfl)) Y
   | non=>
    cases M
    cases J
    rcases m with rfl | rfl | rfl | rfl | rfl
    all_goals exact Bh (isinstance_false_none DD (K8 j) (by kernel_rfl)) Y
   | ref p=>
    cases M
    rcases J with⟨ys,R,rfl⟩ | ⟨ys,R,rfl⟩
    .obtain⟨its,rv,⟨o,n,e,c,_,_⟩,_⟩:=I.list R;rcases m with rfl | rfl | rfl | rfl | rfl
     .exact Bh (isinstance_false_list DD (K8 j) (by kernel_rfl)) ⟨⟨o,e,c⟩,Y⟩
     .exact Bh (isinstance_false_list DD (K8 j) (by kernel_rfl)) ⟨⟨o,e,c⟩,Y⟩
     .exact Bh (isinstance_false_list DD (K8 j) (by kernel_rfl)) ⟨⟨o,e,c⟩,Y⟩
     .exact aS1 j (⟨o,e,c⟩) (by kernel_rfl) U
     .exact Bh (isinstance_false_list DD (K8 j) (by kernel_rfl)) ⟨⟨o,e,c⟩,Y⟩
    .obtain⟨its,rv,⟨o,e,c,n,d⟩,_⟩:=I.tuple R;rcases m with rfl | rfl | rfl | rfl | rfl
     .exact Bh (isinstance_false_tuple DD (K8 j) (by kernel_rfl)) ⟨⟨o,e,c⟩,Y⟩
     .exact Bh (isinstance_false_tuple DD (K8 j) (by kernel_rfl)) ⟨⟨o,e,c⟩,Y⟩
     .exact Bh (isinstance_false_tuple DD (K8 j) (by kernel_rfl)) ⟨⟨o,e,c⟩,Y⟩
     .exact Bh (isinstance_false_tuple DD (K8 j) (by kernel_rfl)) ⟨⟨o,e,c⟩,Y⟩
     .exact aS1 j (⟨o,e,c⟩) (by kernel_rfl) U
   | _=>exact J.elim
end
theorem bJ0 {pos:Pos}(j:Gl X x)(c:X.mg x=none)(m:bootBuiltins x=some (.type T))(s:x≠"__name__" := by decide)(e:(x==("__debug__" : Str))=false:=by decide):PE X (.Name x pos) (tC (.ty T)):=dG6 j c m rfl s e
theorem bN3 {i:Nat}:∀v (σ:St) H Q Q',(∀σ' H',Q σ' H'->Q' σ' H')->F4 i v σ H Q->F4 i v σ H Q':=λ_ _ _ _ _ h q=>h _ _ q
theorem bF5:∀v (σ:St) H Q Q',(∀σ' H',Q σ' H'->Q' σ' H')->bN2 v σ H Q->bN2 v σ H Q':=λ_ _ _ _ _ h q=>⟨q.1,h _ _ q.2⟩
theorem cC1 {t:TG}{u:TGs}(a:∀v (σ:St) H Q Q',(∀σ' H',Q σ' H'->Q' σ' H')->t v σ H Q->t v σ H Q')(b:∀v (σ:St) H Q Q',(∀σ' H',Q σ' H'->Q' σ' H')->u v σ H Q->u v σ H Q') :
  ∀v (σ:St) H Q Q',(∀σ' H',Q σ' H'->Q' σ' H')->p4 t u v σ H Q->p4 t u v σ H Q':=λ_ _ _ _ _ h ⟨v,r,e,q⟩=>⟨v,r,e,a _ _ _ _ _ (λ_ _ z=>b _ _ _ _ _ h z) q⟩
theorem dR2 {K:Frag}(h:i<n)(e:j<n):aY7 n (cC4 K k (p4 (F4 i) (p4 (F4 j) bN2))):=
 dO6 (cG6 bN3 (cC1 bN3 bF5) (G3 h) (cG6 bN3 bF5 (G3 e) dP6))
def AllP {α:Type}(p:α->Prop):List α->Prop
 | []=>True
 | a::l=>p a/\AllP p l
theorem AllP.mem {α:Type}{p:α->Prop}:∀{l:List α},AllP p l->∀a∈l,p a
 | _::_,h,a,ha=>(Aa1.mp ha).elim (λe=>e▸h.1) λz=>AllP.mem h.2 a z
theorem Y5 {β:Type}{v:β}:∀{l:List (Str×β)},l.lookup x=some v->(x,v)∈l
 | [],h=>by cases h
 | (y,u)::l,h=>by
  rw[List.lookup_cons]at h;by_cases e:x==y
  .rw[e]at h;have e':=eq_of_beq e;cases h;subst e';exact Az
  .have j:(x==y)=false:=by simpa using e
   rw[j]at h;exact Ad4 _ (Y5 h)
theorem CScope.of (clos:closureFor scope X.env=pure cl)(kind:scope.kind=.function:=by rfl)
  (s:scope.names.all (λy=>y.2 != .cell&&(y.2 != .local||scope.names.lookup y.1==some .local))=true:=by rfl) (Y:AllP (λp=>X.env.cells.lookup p.1=some p.2) cl:=by repeat' first | exact trivial | refine⟨RR,?_⟩)
  (U:(relabel scope X.env).names.all (λy=>(y.2 != .cell&&y.2 != .free)||(cl.lookup y.1).isSome)=true:=by rfl) (J:N'=T++is.map λ(i:Nat)=>((X.N[i]?).getD Str.empty:Str):=by rfl)
  (M:is.all (λi=>decide (i<X.N.length))=true:=by rfl) (R:AllP (λi=>∃x,X.N[i]? = some x/\((relabel scope X.env).names.lookup x=some .cell\/(relabel scope X.env).names.lookup x=some .free)/\(X.env.kindOf x=some .cell\/X.env.kindOf x=some .free)) is:=by repeat' first | exact trivial | refine⟨⟨_,RR,by first | exact .inl rfl | exact .inr rfl,by first | exact .inl rfl | exact .inr rfl⟩,?_⟩):CScope X scope cl T is N' where
 clos:=clos
 cell:=λy j e=>by
  have:=Ac9.mp s y j
  rw[e]at this;simp at this
 kind:=kind
 names:=λy j e=>by
  have:=Ac9.mp s y j
  rw[e]at this;simp at this;exact this
 cap:=λx c h=>Y.mem (x,c) (Y5 h)
 has:=λx h=>by
  have m:∀k,(relabel scope X.env).names.lookup x=some k->k=.cell\/k=.free->∃c,cl.lookup x=some c:=λk e D=>by
   have:=Ac9.mp U (x,k) (Y5 e)
   rcases D with rfl | rfl <;> exact Option.isSome_iff_exists.mp this
  rcases h with h | h
  .exact m _ h (.inl rfl)
  .exact m _ h (.inr rfl)
 N:=J
 lt:=λi hi=>Ap (Ac9.mp M i hi)
 capt:=λi hi x e=>by
  obtain⟨y,e',h1,Q⟩:=R.mem i hi;rw[e]at e';cases e';exact⟨h1,Q⟩
section
theorem ixK (K:Frag)(h:X.K=K:=by rfl):IxR X (rIx K):=h▸D5
theorem aK1 (K:Frag)(h:X.K=K:=by rfl):Q4 X (.builtin "len") (λxs H Q=>∃p ys,xs=[.ref p]/\(SqL K H p ys\/SqT K H p ys)/\Q (.int ys.length) H):=h▸M3
theorem dF4 (K:Frag)(h:X.K=K:=by rfl):Q4 X (.builtin "isinstance") (λxs H Q=>∃x T b,xs=[x,.ty T]/\T∈bY1/\dT3 K H T x b/\Q (.bl b) H):=h▸cW1
theorem eA8 (K:Frag)(h:X.K=K:=by rfl):SlR X (dS5 K):=h▸bP7
theorem cM9 (K:Frag)(h:X.K=K:=by rfl):Q4 X (.type "tuple") (λxs H Q=>∃p ys,xs=[.ref p]/\((SqL K H p ys/\∀l,H l=none->Q (.ref l) (upd H l (.tup ys)))\/(SqT K H p ys/\Q (.ref p) H))):=h▸Q5
theorem eE0 (K:Frag)(h:X.K=K:=by rfl):Q4 X (.type "list") (λxs H Q=>∃p ys,xs=[.ref p]/\(SqL K H p ys\/SqT K H p ys)/\∀l,H l=none->Q (.ref l) (upd H l (.lst ys))):=h▸bO6
end
end L2
namespace LV
open PySem L2
section
theorem aA3 (e:E K false ta ρ (.int i))(c:E K false tb ρ (.int j)):E K m (tOp rEq ta tb) ρ (.bool (decide (i=j))):=
 bW7 e c λH Q q=>⟨rfl,by
  have:decide (V.int i=V.int j)=decide (i=j):=by simp
  rw[this];exact q _ λ_=>.bl _⟩
theorem eD8 (e:E K false ta ρ (.int i))(c:E K false tb ρ (.int j)):E K m (tOp rNe ta tb) ρ (.bool (!decide (i=j))):=
 bW7 e c λH Q q=>⟨rfl,by
  have:decide (V.int i=V.int j)=decide (i=j):=by simp
  rw[this];exact q _ λ_=>.bl _⟩
theorem aV2 (e:E K false ta ρ (.int i)):E K m (tUn (rU λi=>.int (-i)) ta) ρ (.int (-i)):=E.bor (E.imm (m:=false) λS B σ H o I Q q=>e S B σ H o I _ λv H1 j r=>by
 cases r
 exact⟨i,rfl,q _ H1 j (.int _)⟩)
theorem cM6 {t:TA}(e:A K false t ρ ds)(j:∀(H:Hp) (vs:List V) (Q:VK),Reps K H vs ds->(∀v,(∀H,Rep K H v d)->Q v H)->r vs H Q):E K m (tCB r t) ρ d:=λS B σ H o I Q q=>
 e S B σ H o I _ λvs H1 s rs=>j H1 vs Q rs λv c=>q v H1 s (c _)
theorem P4 {t:TA}(e:A K false t ρ [d])(h:sq d=some ds:=by rfl):E K m (tCB (λxs H Q=>∃p ys,xs=[.ref p]/\(SqL K H p ys\/SqT K H p ys)/\Q (.int ys.length) H) t) ρ (.int ds.length):=cM6 e λH vs Q r q=>by
 cases r with
 | cons a b=>
  cases b
  cases a with
  | lst s r=>cases h;exact⟨_,_,rfl,.inl s,by rw[r.length];exact q _ λ_=>.int _⟩
  | tup s r=>cases h;exact⟨_,_,rfl,.inr s,by rw[r.length];exact q _ λ_=>.int _⟩
  | _=>cases h
theorem cO9 {t:TA}(e:A K false t ρ [.bool b]):E K m (tCB (λxs H Q=>(∃i,xs=[.int i]/\Q (.int i) H)\/∃k,xs=[.bl k]/\Q (.int (if k then 1 else 0)) H) t) ρ (.int (if b then 1 else 0)):=cM6 e λH vs Q r q=>by
 cases r with
 | cons a c=>
  cases c;cases a
  exact .inr ⟨b,rfl,q _ λ_=>.int _⟩
def eF0 (T:String):PyData->Bool
 | .int _=>T == "int"
 | .bool _=>T == "int" || T == "bool"
 | .str _=>T == "str"
 | .list _=>T == "list"
 | .tuple _=>T == "tuple"
 | _=>false
def xNo:PyData->Bool
 | .dict _=>false
 | _=>true
theorem cI7 {T:String}(Y:E K false ta ρ d)(c:T∈bY1:=by decide)(j:xNo d=true:=by first | rfl | assumption):E K m (tCB (λxs H Q=>∃x T b,xs=[x,.ty T]/\T∈bY1/\dT3 K H T x b/\Q (.bl b) H) (E8 ta (E8 (tC (.ty T)) R3))) ρ (.bool (eF0 T d)):=E.bor (E.imm (m:=false) λS B σ H o I Q q=>Y S B σ H o I _ λv H1 X r=>by
 refine⟨v,T,eF0 T d,rfl,c,?_,q _ H1 X (.bl _)⟩;cases r with
 | lst s r=>exact .inl ⟨_,s,rfl⟩
 | tup s r=>exact .inr ⟨_,s,rfl⟩
 | exc e=>exact absurd j (by simp[xNo])
 | ptr=>exact absurd j (by simp[xNo])
 | adr=>exact absurd j (by simp[xNo])
 | dic _ _ _=>exact absurd j (by simp[xNo])
 | _=>rfl)
theorem dE8 {r r':R2}{g g':Int->Int->Bool}(X:E K false ta ρ (.int i))(U:E K false tb ρ (.int j))(J:E K false tc ρ (.int k)):E K m (cT8 (rI0 λi j=>.bl (g i j)) (rI0 λi j=>.bl (g' i j)) ta tb tc) ρ (.bool (g i j&&g' j k)):=
 E.bor (E.imm (m:=false) λS B σ H o I Q q=>X S B σ H o I _ λv H1 e M=>U S B σ H1 o (I.grow e) _ λu s c R=>by
  cases M;cases R
  refine⟨i,j,rfl,rfl,g i j,rfl,?_⟩;cases h:g i j with
  | false=>exact q _ s (L2.Same.tr e c) (by rw[h];exact .bl _)
  | true=>
   refine J S B σ s o ((I.grow e).grow c) _ λw Y F D=>?_
   cases D
   refine⟨j,k,rfl,rfl,q _ Y (L2.Same.tr e (L2.Same.tr c F)) ?_⟩;rw[h,Bool.true_and];exact .bl _)
end
end LV
namespace LV
open PySem PySem.Spec PyProof.Rows L2
section
mutual
theorem P5 (I:Inv X aA σ H s):∀(d:PyData) {v:V} {u:Value},d.canLay0=true->Rep X.K H v d->RelV v u->∃as,Reads s.heap u d as
 | .none,_,_,_,r,q=>by cases r;cases q;exact⟨_,.none⟩
 | .bool _,_,_,_,r,q=>by cases r;cases q;exact⟨_,.bool _⟩
 | .int _,_,_,_,r,q=>by cases r;obtain⟨t,rfl⟩:=q;exact⟨_,.int _ _⟩
 | .str _,_,_,_,r,q=>by cases r;obtain⟨t,rfl⟩:=q;exact⟨_,.str _ _⟩
 | .tuple ds,_,_,c,r,q=>by
  cases r with
  | tup sq rs=>
   cases q
   obtain⟨its,Y,⟨o,e,j,n,d⟩,_⟩:=I.tuple sq;obtain⟨as,m⟩:=aJ7 I ds (by simpa[PyData.canLay0]using c) rs Y
   exact⟨_,.tuple e j d (by simpa using m)⟩
 | .list ds,_,_,c,r,q=>by
  cases r with
  | lst sq rs=>
   cases q
   obtain⟨its,Y,⟨o,n,e,j,_,d⟩,_⟩:=I.list sq;obtain⟨as,m⟩:=aJ7 I ds (by simpa[PyData.canLay0]using c) rs Y
   exact⟨_,.list e j d (by simpa using m)⟩
 | .dict _,_,_,c,_,_=>by simp[PyData.canLay0]at c
theorem aJ7 (I:Inv X aA σ H s):∀(ds:AG) {vs:List V} {us:AH},PyData.canLayAll0 ds=true->Reps X.K H vs ds->Vals vs us->∃as,ReadsAll s.heap us ds as
 | [],_,_,_,r,q=>by cases r;cases q;exact⟨_,.nil⟩
 | d::ds,_,_,c,r,q=>by
  have e:d.canLay0=true/\PyData.canLayAll0 ds=true:=by simpa[PyData.canLayAll0]using c
  cases r with
  | cons a b=>
   cases q with
   | cons j m=>
    obtain⟨as,h1⟩:=P5 I d e.1 a j;obtain⟨bs,Y⟩:=aJ7 I ds e.2 b m;exact⟨_,.cons h1 Y⟩
end
def Fit (d:PyData):Prop:=d.canLay0=true/\d.depth<=32
def cO5 (K:Frag)(neg:Bool):R2:=λx y H Q=>∃d e,Rep K H x d/\Rep K H y e/\Fit d/\Fit e/\Q (.bl (if neg then !PyData.eqv d e else PyData.eqv d e)) H
def dC9 (K:Frag)(neg:Bool):R2:=λx y H Q=>∃d e ds,Rep K H x d/\Rep K H y e/\sq e=some ds/\Fit d/\Fit e/\Q (.bl (if neg then !ds.any λz=>PyData.eqv z d else ds.any λz=>PyData.eqv z d)) H
theorem bP1 (K:Frag)(U:Room k X.A)(h:X.K=K:=by rfl):OpR X (compareOp .Eq) (cO5 K false):=by
 subst h;intro D s σ H x y v u Q I M R ⟨d,e,m,Y,j,c,q⟩;obtain⟨F,J⟩:=P5 I d j.1 m M;obtain⟨bs,rb⟩:=P5 I e c.1 Y R;exact SeqAt.compareEq_reads J rb j.1 c.1 (by have:=U.un;have:=j.2;lia) ⟨.bl _,H,I,rfl,q⟩
theorem bK4 (K:Frag)(U:Room k X.A)(h:X.K=K:=by rfl):OpR X (compareOp .NotEq) (cO5 K true):=by
 subst h;intro D s σ H x y v u Q I M R ⟨d,e,m,Y,j,c,q⟩;obtain⟨F,J⟩:=P5 I d j.1 m M;obtain⟨bs,rb⟩:=P5 I e c.1 Y R;exact SeqAt.compareNe_reads J rb j.1 c.1 (by have:=U.un;have:=j.2;lia) ⟨.bl _,H,I,rfl,q⟩
theorem aX0 (h:Fit (.list ds)\/Fit (.tuple ds)):PyData.canLayAll0 ds=true/\PyData.depthAll ds<=32:=by
 rcases h with⟨a,b⟩ | ⟨a,b⟩ <;> simp  [PyData.canLay0,PyData.depth]at a b <;> exact⟨a,zq3⟩
theorem aJ2 (K:Frag)(Y:Room k X.A)(h:X.K=K:=by rfl):OpR X (compareOp .In) (dC9 K false):=by
 subst h;intro J s σ H x y v u Q I F B ⟨d,e,ds,R,D,m,j,c,q⟩;obtain⟨P,U⟩:=P5 I d j.1 R F;obtain⟨bs,rb⟩:=P5 I e c.1 D B;have fin:EP X J σ Q (.bool (ds.any λz=>PyData.eqv z d)) s:=⟨.bl _,H,I,rfl,q⟩
 cases e with
 | list M=>
  cases m
  have:=aX0 (.inl c)
  exact SeqAt.in_list_reads rb U this.1 j.1 (by have:=Y.un;have:=j.2;lia) fin
 | tuple M=>
  cases m
  have:=aX0 (.inr c)
  exact SeqAt.in_tuple_reads rb U this.1 j.1 (by have:=Y.un;have:=j.2;lia) fin
 | _=>cases m
theorem S5 (K:Frag)(Y:Room k X.A)(h:X.K=K:=by rfl):OpR X (compareOp .NotIn) (dC9 K true):=by
 subst h;intro J s σ H x y v u Q I F B ⟨d,e,ds,R,D,m,j,c,q⟩;obtain⟨P,U⟩:=P5 I d j.1 R F;obtain⟨bs,rb⟩:=P5 I e c.1 D B;have fin:EP X J σ Q (.bool (!ds.any λz=>PyData.eqv z d)) s:=⟨.bl _,H,I,rfl,q⟩
 cases e with
 | list M=>
  cases m
  have:=aX0 (.inl c)
  exact SeqAt.notIn_list_reads rb U this.1 j.1 (by have:=Y.un;have:=j.2;lia) fin
 | tuple M=>
  cases m
  have:=aX0 (.inr c)
  exact SeqAt.notIn_tuple_reads rb U this.1 j.1 (by have:=Y.un;have:=j.2;lia) fin
 | _=>cases m
theorem N9:∀{l:AF} {its:AH},Vals (l.map V.int) its->IntsAre its l
 | [],_,r=>by cases r;exact .nil
 | i::l,_,r=>by
  cases r with
  | cons a b=>
   obtain⟨t,rfl⟩:=a;exact .cons _ _ (N9 b)
theorem cC3:∀{l:AF} {m:Nat} (hm:m<l.length),m<l.idxOf k->l[m]≠k
 | [],m,hm,_=>by simp at hm
 | a::l,m,hm,h=>by
  rw[List.idxOf_cons]at h;by_cases e:a=k
  .subst e;simp at h
  .have e1:(a==k)=false:=by simpa using e
   rw[e1]at h;simp  [cond_false]at h;cases m with
   | zero=>simpa using e
   | succ m=>exact cC3 (m:=m) (by simpa using hm) YY
theorem cR4 {A:Around}{E:Ed}(D:A.handled=none)(J:s.heap.IsList l vs.toArray)(hi:IntsAre vs ns)(m:0<ns.length)
  (h:∀h' M (t:Tok) tk,(∀b o,s.heap.get? b=some o->h'.get? b=some o)->M∈ns->(∀a,a∈ns->M<=a)->Q (.int M t) {s with heap:=h',toks:=tk}):wpAny (model P w) A (call (.builtin "min") [.ref l]) Q E s:=by
 obtain⟨xs,e⟩:=hi.allInts.items;have c:ns=xs.toList.map (·.1):=by rw[<- hi.numsOf,<- nums_intItems,<- e]
 have Y:0<xs.size:=by
  have X:=m;rw[c,Aa3,Bb]at X;exact X
 rw[e]at J;refine min_intList D J Y λv h' tk hv B=>?_
 obtain⟨t,rfl⟩:=intItems_at hv;obtain⟨h1,R⟩:=argBest_lt (numAt xs) (xs.size-1);refine h _ _ t tk B ?_ λa U=>?_
 .rw[c,numAt_eq];exact getD_mem (by rw[Aa3,Bb];omega)
 .rw[c]at U;obtain⟨j,F,rfl⟩:=mem_getD U;rw[Aa3,Bb]at F;rw[<- numAt_eq];exact R j LL
theorem bI2 (K:Frag)(m:X.calm=true)(h:X.K=K:=by rfl):Q4 X (.builtin "min") (λxs H Q=>∃(p:Addr) (l:AF),xs=[.ref p]/\SqL K H p (l.map V.int)/\l≠[]/\∀M,M∈l->(∀a∈l,M<=a)->Q (.int M) H):=by
 subst h;intro D s σ H xs P Q I r ⟨p,l,e,U,j,q⟩;subst e;obtain⟨u,rfl,R⟩:=U4 r;cases R;obtain⟨its,J,pl,_⟩:=I.list U;exact cR4 (I.ok.hd m) pl.isList (N9 J) (Cv.mpr j) λF M t B Y h1 c=>⟨.int M,H,I.kept Y,⟨_,rfl⟩,q M h1 c⟩
theorem cL6 (K:Frag)(h:X.K=K:=by rfl):MtR X "list.index" (λx xs H Q=>∃(p:Addr) (l:AF) (k:Int),x=.ref p/\xs=[.int k]/\SqL K H p (l.map V.int)/\k∈l/\Q (.int (l.idxOf k)) H):=by
 subst h;intro aA s σ H x xs v us Q I rx rv ⟨p,l,k,P,e2,hq,hk,q⟩;subst P;subst e2;cases rx;obtain⟨u,rfl,t,rfl⟩:=U4 rv;obtain⟨its,r,⟨o,n,e,c,B,d⟩,hz⟩:=I.list hq;obtain⟨oc,od,M,R⟩:=o;subst c;subst B;subst d;have U:=r.length;rw[Aa3]at U;have Y:=Ax.mpr hk;have at_:∀(j:Nat) (Y:j<its.toArray.size),∃t,its.toArray[j]=Value.int (l[j]'(by simpa[U]using Y)) t:=λj Y=>by
  have J:j<l.length:=by simpa[U]using Y
  obtain⟨u,h1,t,rfl⟩:=r.get (by rw[Aa9,Aa2 J];rfl)
  have:=(Ab0.mp h1).2
  exact⟨t,by simpa using this⟩
 have hz':=aT1
 rw[Aa3]at hz;refine call_meets F.slot_list_index ⟨_,e,rfl⟩ F.entry_list_index (F.args_list_index_2 _ _) (SeqAt.list_indexAt p its.toArray n none R (.int k t) (λy=>match y with | .int i _=>i==k | _=>false) (l.idxOf k) (by simpa[<- U]using Y) LL ?_ ?_) ⟨e,λy hy=>?_,⟨.int _,H,I.tok _,⟨_,rfl⟩,q⟩⟩
 .obtain⟨D,e'⟩:=at_ (l.idxOf k) (by simpa[<- U]using Y)
  rw[e'];simp
 .intro m hm hlt;obtain⟨D,e'⟩:=at_ m hm;rw[e']
  have:l[m]'(by simpa[U]using hm)≠k:=λz=>by
   have h1:m<l.length:=by simpa[U]using hm
   exact cC3 h1 hlt z
  simpa using this
 .obtain⟨j,Y,rfl⟩:=Array.mem_iff_getElem.mp hy;obtain⟨D,e'⟩:=at_ j Y;rw[e'];exact SeqAt.EqAt.int_int _ _ _ _
end
theorem bL7:∀{vs:List V} {us:AH},vs.length=us.length->(∀(j:Nat) v u,vs[j]? = some v->us[j]? = some u->RelV v u)->Vals vs us
 | [],[],_,_=>.nil
 | v::vs,u::us,hl,h=>.cons (h 0 v u rfl rfl) (bL7 (by simpa using hl) λj v u e1 e2=>h (j+1) v u (by simpa using e1) (by simpa using e2))
 | [],_::_,hl,_=>by simp at hl
 | _::_,[],hl,_=>by simp at hl
section
def dM4 (ta:TA):TE:=λσ H Q=>ta σ H λvs H1=>∃i j:Int,vs=[.int i,.int j]/\∀p,H1 p=none->Q (.ref p) (upd H1 p (.rng i j))
theorem dD0 {p pos:Pos}(J:Gl X "range")(M:X.mg "range" = none)(U:PA X [a,b] ta)(R:starEach [a,b] X.env=[(false,eval a X.env),(false,eval b X.env)]:=by rfl)(c:starEach [b] X.env=[(false,eval b X.env)]:=by rfl) :
  PE X (.Call (.Name "range" p) [a,b] [] pos) (dM4 ta):=by
 refine⟨?_⟩;intro Y s σ H Q I h;refine Call_ (y4 I J M boot_range (Bo (thn (U pos Y s σ H _ I h) λus P pz=>?_) (by rw[R,c]) (by rw[c];rfl)))
 obtain⟨vs,H1,m,B,D⟩:=pz;obtain⟨i,j,e,q⟩:=D;subst e;cases B with
 | cons r rr=>
  cases rr with
  | cons F rr=>
   cases rr
   obtain⟨t,rfl⟩:=r;obtain⟨t',rfl⟩:=F;refine call_range_2 ?_;refine⟨.ref _,_,m.laid (λb o e=>Aa6 _ e) (Aa7 _) (show ObjOk X.prog X.w _ _ _ (.rng i j) from⟨_,_,_,Ac3 _ rfl⟩),rfl,q _ (m.hok.fresh (Aa7 _))⟩
def aI6 (lo:Int)(n:Nat):List V:=(List.range n).map λ(k:Nat)=>V.int (lo+(k:Int))
theorem bE6 (hc:X.calm=true):Q4 X (.type "list") (λxs H Q=>∃(r:Addr) (i j:Int),xs=[.ref r]/\H r=some (.rng i j)/\(-(2^62)<=i/\i<2^62 /\ -(2^62)<=j/\j<2^62/\j-i<=1000000)/\∀l,H l=none->Q (.ref l) (upd H l (.lst (aI6 i (j-i).toNat)))):=by
 intro aA s σ H xs us Q I r ⟨U,i,j,e,hq,⟨h1,F,B,P,h5⟩,q⟩;subst e;obtain⟨u,rfl,rx⟩:=U4 r;cases rx;obtain⟨t,u,v,e⟩:=I.hok U _ hq;have hn:Builtin.Range.rangeSize i j 1=((j-i).toNat):=by rw[rangeSize_one];split <;> lia
 refine call_list_range (I.ok.hd hc) (show IsRange s.heap U i j 1 t u v from e) (small_one h1 F B P) hn LL λD tk c J kp R it=>?_
 have rv:Vals (aI6 i (j-i).toNat) c.toList:=by
  obtain⟨hz,Y⟩:=it;refine bL7 (by simp[aI6,hz]) λk v u m M=>?_
  obtain⟨t,rfl⟩:=Y k u (by simpa using M)
  have hk:k<(j-i).toNat:=by
   have:=(Ab0.mp m).1
   simpa[aI6]using this
  unfold aI6 at m;rw[Aa9,List.getElem?_range hk]at m;cases m;exact⟨t,SS⟩
 refine⟨.ref s.heap.objs.size,_,I.laid kp (Aa7 _) (show ObjOk X.prog X.w _ D _ (.lst _) from⟨?_,c.toList,J,rv,by simpa using R⟩),rfl,q _ (I.hok.fresh (Aa7 _))⟩
 simp[aI6];unfold sizeLine;lia
end
end LV
namespace PySem
open Sem (wp)
theorem cC0:typeLookup (.type "list_reverseiterator") "__len__" = pure none:=by kernel_rfl
theorem cU5:typeLookup (.type "list_reverseiterator") "__length_hint__" = pure (some (.builtin "list_reverseiterator.__length_hint__")):=by kernel_rfl
section
theorem aT3 (hh:A.handled=none)(j:s.heap.IsRevIter r l ((items.size:Int)-1))(hl:s.heap.IsList l items)(Q:l≠r)(S:Addr)(c:S≠r)(J:S≠l)(res:Value)(D:Nat)(hS:s.heap.get? S=some {cls:=.type "list",data:=.seq #[] D})
  (hR:∀h' tk acc' c',(∀b o,b≠S->b≠r->s.heap.get? b=some o->h'.get? b=some o)->h'.get? S=some {cls:=.type "list",dict:=none,data:=.seq acc' c',slots := #[]} ->
   ItemsOf (λi v=>items[items.size-1-i]? = some v) acc' items.size->R (.ok (.ret res)) {s with heap:=h',toks:=tk}) (hn:items.size<=sizeLine) :
  wpAny (model prog w) A.in1 (Builtin.List.listExtendWith (.ref S) (.ref r) res)
   (λfin s'=>match fin with | .done f=>R (.ok f) s' | .again c'=>c'.quiet=true/\codeAny (model prog w) A c' R s') (λe s'=>R (.error e) s') s:=by
 have U:S∉[r,l]:=λY=>by simp at Y;rcases Y with h | h;exact c h;exact J h
 refine Aa (wpAny_typeOf j.typeIs ?_);have h1:Builtin.List.listSameRef (.ref S) (.ref r)=false:=by simp[Builtin.List.listSameRef,c]
 have B:(Value.type "list_reverseiterator" == Value.type "list")=false:=by decide
 have P:(Value.type "list_reverseiterator" == Value.type "tuple")=false:=by decide
 simp  [h1,B,P,Bool.or_false,Dz,if_false]
 refine Aa (wpAny_pyIter_revIter j ?_);refine Aa (Cg ?_);refine Aa (wpAny_specialOf j.typeIs cC0 ?_);refine Aa (wpAny_specialOf j.typeIs cU5 ?_);refine Aa (wpAny_isInstance (b:=true) j.typeIs (by kernel_rfl) ?_)
 refine Ae ?_;refine Ae ⟨plainId_quiet F.plain_extend_loop _,codeAny_extend_loopS (Walks.listRev (A:=A.in1) hh r l Q items).toS hn S U res items.size 0 _ _ _ rfl (Br _) ⟨Br _,by simpa using j,hl⟩ hS (ItemsOf.nil _) λs' acc' c' Y X m=>?_⟩
 rw[Moved.eq_with Y]
 refine hR s'.heap s'.toks acc' c' (λb ob hb M e=>Y.heap b ob (λhmem=>?_) e) X m
 rcases Aa1.mp hmem with e' | hmem
 .exact hb e'
 .exact M (Ad8.mp hmem)
theorem aH4 (P:A.handled=none)(D:s.heap.IsRevIter r l ((items.size:Int)-1))(hl:s.heap.IsList l items)(F:l≠r)(S:Addr)(m:S≠r)(c:S≠l)(U:s.heap.get? S=some {cls:=.type "list",data:=.seq #[]})
  (B:∀h' tk acc' c',(∀b o,b≠S->b≠r->s.heap.get? b=some o->h'.get? b=some o)->h'.get? S=some {cls:=.type "list",dict:=none,data:=.seq acc' c',slots := #[]} ->
   ItemsOf (λi v=>items[items.size-1-i]? = some v) acc' items.size->R (.ok (.ret .none)) {s with heap:=h',toks:=tk}) (hn:items.size<=sizeLine) :
  wpAny (model prog w) A.in1 (Builtin.«list.__init__» ⟨[.ref S,.ref r],[]⟩)
   (λfin s'=>match fin with | .done f=>R (.ok f) s' | .again c'=>c'.quiet=true/\codeAny (model prog w) A c' R s') (λe s'=>R (.error e) s') s:=by
 refine Aa ?_;refine Aa (wpAny_seqItems U rfl (Ae ?_));refine Aa (wpAny_updateSeq U rfl ?_);have M:=Dd (Obj.mapSeq (λ_=>(#[]))) U rfl
 have j:∀b o,b≠S->s.heap.get? b=some o->(s.heap.update S (Obj.mapSeq (λ_=>(#[])))).get? b=some o:=
  λb o X e=>(Dr _ _ (Ne.symm X)).trans e
 refine aT3 P (s:={s with heap:=s.heap.update S (Obj.mapSeq (λ_=>(#[])))}) (D.at λo e=>j r o m.symm e) (hl.at λo e=>j l o c.symm e) F S m c .none _ M (λh' tk acc' c' hk J Y=>?_) hn
 exact B h' tk acc' c' (λb o X Q e=>hk b o X Q (j b o X e)) J Y
theorem bA7 (B:A.handled=none)(c:s.heap.IsRevIter r l ((items.size:Int)-1))(J:s.heap.IsList l items)(X:l≠r)(hn:items.size<=sizeLine)
  (R:∀h' tk acc' c',(∀b o,b≠r->s.heap.get? b=some o->h'.get? b=some o) ->
   h'.get? s.heap.objs.size=some {cls:=.type "list",dict:=none,data:=.seq acc' c',slots := #[]}->ItemsOf (λi v=>items[items.size-1-i]? = some v) acc' items.size->Q (.ref s.heap.objs.size) {s with heap:=h',toks:=tk}) :
  wpAny (model prog w) A (call (.type "list") [.ref r]) Q E s:=by
 refine callType_codes (Q₁:=λm M=>m=.ref s.heap.objs.size/\M={s with heap:=s.heap.push {cls:=.type "list",data:=.seq #[]}}) F.called_list (F.typeCall_list_1 _) F.entry_list_init
  (code_list_new _ ⟨rfl,rfl⟩) λm M h₁=>?_
 obtain⟨rfl,rfl⟩:=h₁;have U:(s.heap.push {cls:=.type "list",data:=.seq #[]}).get? s.heap.objs.size=some {cls:=.type "list",data:=.seq #[]}:=Ac3 _ rfl;have nr:s.heap.objs.size≠r:=by obtain⟨o,e,_⟩:=c;exact(Ab9 (Ab3 e)).symm
 have nl:s.heap.objs.size≠l:=by obtain⟨o,e,_⟩:=J;exact(Ab9 (Ab3 e)).symm
 refine⟨⟨_,U,rfl⟩,F.args_list_init_2 _ _,aH4 (A:=A.in1) B (c.at λo e=>Aa6 _ e) (J.at λo e=>Aa6 _ e) X _ nr nl U (λh' tk acc' c' P Y j=>?_) hn⟩
 exact⟨rfl,R h' tk acc' c' (λb o D e=>P b o (Ab9 (Ab3 e)) D (Aa6 _ e)) Y j⟩
end
end PySem
namespace LV
open PySem PySem.Spec PyProof.Rows L2
section
def cH2 (K:Frag)(te:TE):TE:=λσ H Q=>te σ H λx H1=>∃p ys,x=.ref p/\SqL K H1 p ys/\∀l,H1 l=none->Q (.ref l) (upd H1 l (.lst ys.reverse))
theorem bY6 (K:Frag){p1 p2 pos1 pos2:Pos}(hc:X.calm=true)(B:Gl X "list")(hm1:X.mg "list" = none)(P:Gl X "reversed")(hm2:X.mg "reversed" = none)(he:PE X e te)(hK:X.K=K:=by rfl)
  (J:starEach [e] X.env=[(false,eval e X.env)]:=by rfl) (hs2:starEach [Expr.Call (.Name "reversed" p2) [e] [] pos2] X.env=[(false,eval (Expr.Call (.Name "reversed" p2) [e] [] pos2) X.env)]:=by rfl) :
  PE X (.Call (.Name "list" p1) [.Call (.Name "reversed" p2) [e] [] pos2] [] pos1) (cH2 K te):=by
 subst hK;refine⟨?_⟩;intro F s σ H Q I h;refine wpAny_Call_Name_kw (y4 I B hm1 boot_list ?_);refine Bo ?_ RR rfl
 refine Calls.spliced_cons ?_;refine wpAny_Call_Name_kw (y4 I P hm2 boot_reversed ?_);refine Bo ?_ (by rw[J];rfl) rfl
 rw[J];refine Calls.spliced_cons (thn (he F s σ H _ I h) λu R pz=>?_)
 obtain⟨x,H1,U,r1,p,ys,D,hq,q⟩:=pz;subst D;cases r1;refine Calls.spliced_nil ?_;obtain⟨its,rv,pl,Y⟩:=U.list hq;have m:=rv.length;have hlt:p<R.heap.objs.size:=by obtain⟨o,n,e,_⟩:=pl;exact Ab3 e
 refine call_reversed_list pl.isList ?_;refine Calls.spliced_nil ?_;have I2:Inv X F σ H1 {R with heap:=R.heap.push (revObj p (its.toArray.size-1))}:=U.kept λb o e=>Aa6 _ e
 refine bA7 (U.ok.hd hc) ⟨_,Ac3 _ rfl,rfl,rfl⟩ (pl.isList.at λo e=>Aa6 _ e) (Ab9 hlt) (by rw[Ab2];simp_all) λh' tk c c' kp el it=>?_
 have rr:Vals ys.reverse c.toList:=by
  obtain⟨Y,hit⟩:=it;have Y:c.size=its.length:=by simpa using Y
  refine bL7 (by simp[Y,m]) λj v u D e2=>?_
  have hj:j<its.length:=by
   have:=(Ab0.mp e2).1
   simpa[Y]using this
  have hu:=hit j u (by simpa using e2)
  rw[List.getElem?_reverse XX,m]at D
  obtain⟨u',h1,h2⟩:=rv.get D;have M:its[its.length-1-j]? = some u:=by simpa using hu
  rw[h1]at M;cases M;exact h2
 have kp':=λb o e=>kp b o (Ab9 (Ab3 e)) (Aa6 _ e)
 have I3:Inv X F σ (upd H1 (R.heap.push (revObj p (its.toArray.size-1))).objs.size (.lst ys.reverse)) {R with heap:=h',toks:=tk}:=
  U.laid kp' (by rw[Dm];exact Nat.le_succ _) (show ObjOk X.prog X.w _ h' _ (.lst _) from⟨by rw[Ae2];exact Y,c.toList,c',rr,by simpa using el⟩)
 exact⟨.ref _,_,I3,rfl,q _ (U.hok.fresh (by rw[Dm];exact Nat.le_succ _))⟩
end
section
theorem dC0 {s:Shared}{h':Heap}(j:∀b x,b∉[s.heap.objs.size]->(s.heap.push o).get? b=some x->h'.get? b=some x):∀b x,s.heap.get? b=some x->h'.get? b=some x:=
 λb x e=>j b x (λc=>by rw[Ad8.mp c]at e;exact Ad9 _ (Ab3 e)) (Aa6 _ e)
theorem dF0 {bs:List Bool}(r:Vals (bs.map V.bl) its){i:Nat}(e:its[i]? = some v):∃b,bs[i]? = some b/\v=.bool b:=by
 have c:=r.length
 rw[Aa3]at c;have hi:i<bs.length:=by have:=(Ab0.mp e).1;simp[*]
 obtain⟨u,h1,j⟩:=r.get (by rw[Aa9,Aa2 hi];rfl)
 rw[e]at h1;cases h1;exact⟨_,Aa2 hi,j⟩
theorem aG2 (K:Frag)(J:X.calm=true)(h:X.K=K:=by rfl):Q4 X (.builtin "all") (λxs H Q=>∃(p:Addr) (l:List Bool),xs=[.ref p]/\SqL K H p (l.map V.bl)/\Q (.bl (l.all id)) H):=by
 subst h;intro P s σ H xs us Q I r ⟨p,l,e,R,q⟩;subst e;obtain⟨u,rfl,D⟩:=U4 r;cases D;obtain⟨its,Y,pl,_⟩:=I.list R;have j:=pl.isList;have c:p<s.heap.objs.size:=by obtain⟨_,e,_⟩:=j;exact Ab3 e
 refine call_all_walk (wpAny_pyIter_list j ?_);refine⟨s.heap.objs.size,[s.heap.objs.size,p],[s.heap.objs.size],its.toArray.size,_,_,λi=>(l[i]?).getD true,rfl,Walks.list (A:=X.A.in1) (I.ok.hd J) _ p (Ab9 c) its.toArray,
  ⟨⟨_,Ac3 _ rfl,rfl,rfl⟩,j.push _⟩,λi v s' B F U m=>?_,λh' tk M=>?_⟩
 .obtain⟨b,e,rfl⟩:=dF0 Y (by simpa using U)
  simp  [e,Option.getD_some]at m
  exact wpAny_truthy_bool m
 .have e:((List.range its.toArray.size).all λi=>(l[i]?).getD true)=l.all id:=by
   have:=Y.length
   rw[Aa3]at this;rw[Ab2,<- this];exact LSm.range_all l
  rw[e];exact⟨.bl _,H,I.kept (dC0 M),rfl,q⟩
end
end LV
namespace LS
open PySem PySem.W PyProof.Rows
def ev {α:Type}(lt:Nat->Nat->Bool):KasT α->α
 | .ret a=>a
 | .ask i j k=>ev lt (k (lt i j))
theorem j9 (lt:Nat->Nat->Bool)(f:α->KasT β):∀t:KasT α,ev lt (t.bind f)=ev lt (f (ev lt t))
 | .ret _=>rfl
 | .ask i j k=>j9 lt f (k (lt i j))
def W7 {α:Type}(lt:Nat->Nat->Bool)(P:Nat->Prop):KasT α->Prop
 | .ret _=>True
 | .ask i j k=>P i/\P j/\W7 lt P (k (lt i j))
theorem S1 {α β:Type}{lt:Nat->Nat->Bool}{P:Nat->Prop}{f:α->KasT β}:∀{t:KasT α},W7 lt P t->W7 lt P (f (ev lt t))->W7 lt P (t.bind f)
 | .ret _,_,h=>h
 | .ask _ _ _,⟨h1,e,j⟩,h=>⟨h1,e,S1 j h⟩
theorem cX3 {α:Type}{lt:Nat->Nat->Bool}{P:Nat->Prop}{cmp:Nat->Nat->(Bool->Shared->Prop)->Shared->Prop}{Q:α->Shared->Prop}{s:Shared}
  (e:∀i j C,P i->P j->C (lt i j) s->cmp i j C s):∀(t:KasT α),W7 lt P t->Q (ev lt t) s->t.kasWp cmp Q s
 | .ret _,_,h=>h
 | .ask i j k,⟨h1,c,m⟩,h=>e i j _ h1 c (cX3 e (k (lt i j)) m h)
structure Ord (lt:Nat->Nat->Bool):Prop where
 asym:∀a b,lt a b=true->lt b a=false
 trans:∀a b c,lt b a=false->lt c b=false->lt c a=false
section
def g (p:Array Nat)(i:Nat):Nat:=p.getD i 0
theorem aV4:g p i=(p[i]?).getD 0:=by unfold g;simp[Array.getD_eq_getD_getElem?]
abbrev le (lt:Nat->Nat->Bool)(a b:Nat):Prop:=lt b a=false
theorem Ord.refl (O:Ord lt)(a:Nat):le lt a a:=by
 cases h:lt a a with
 | false=>exact h
 | true=>exact O.asym a a h
theorem Ord.of_lt (O:Ord lt)(h:lt a b=true):le lt a b:=O.asym a b h
def Srt (lt:Nat->Nat->Bool)(p:Array Nat)(k:Nat):Prop:=∀i j,i<=j->j<k->le lt (g p i) (g p j)
def Dsc (lt:Nat->Nat->Bool)(p:Array Nat)(k:Nat):Prop:=∀i j,i<=j->j<k->le lt (g p j) (g p i)
theorem bF6 (e:j<=p.size)(k:Nat):g (kas_rev p i j) k=if i<=k/\k<j then g p (i+j-1-k) else g p k:=by
 unfold kas_rev;rw[aV4,getElem?_mirror_all e,aV4,aV4];split <;> rfl
theorem dZ3 (e:k<p.size)(j:l<=k)(i:Nat):g (bubble p k (k-l)) i=if i=l then g p k else if l<i/\i<=k then g p (i-1) else g p i:=by
 rw[aV4,getElem?_bubble e _ SS,aV4,aV4,aV4,show k-(k-l)=l by lia]
 repeat' split
 all_goals rfl
theorem bN9 (O:Ord lt){p:Array Nat}{N:Nat}:∀(f n:Nat),1<=n->n+f<=N->Srt lt p n->∃m,ev lt (kas_asc p f n)=m/\n<=m/\m<=n+f/\Srt lt p m/\(m<n+f->lt (g p m) (g p (m-1))=true)/\W7 lt (λi=>∃j,j<N/\i=g p j) (kas_asc p f n)
 | 0,n,h1,hN,h=>⟨n,rfl,Aa7 _,Aa7 _,h,λz=>absurd z (Ad9 _),trivial⟩
 | f+1,n,h1,hN,h=>by
  cases c:lt (g p n) (g p (n-1)) with
  | true=>
   refine⟨n,?_,Aa7 _,SS,h,λ_=>c,⟨n,LL,rfl⟩,⟨n-1,LL,rfl⟩,?_⟩
   .show ev lt (if lt (g p n) (g p (n-1))=true then KasT.ret n else kas_asc p f (n+1))=n
    rw[c];rfl
   .show W7 lt _ (if lt (g p n) (g p (n-1))=true then KasT.ret n else kas_asc p f (n+1))
    rw[c];exact trivial
  | false=>
   have M:Srt lt p (n+1):=λi j s D=>by
    by_cases e:j=n
    .subst e;by_cases J:i=j
     .subst J;exact O.refl _
     .exact O.trans _ _ _ (h i (j-1) LL LL) c
    .exact h i j s LL
   obtain⟨m,e,R,Q,Y,X,U⟩:=bN9 O (N:=N) f (n+1) SS LL M
   refine⟨m,?_,zq1,LL,Y,λz=>X LL,⟨n,LL,rfl⟩,⟨n-1,LL,rfl⟩,?_⟩
   .show ev lt (if lt (g p n) (g p (n-1))=true then KasT.ret n else kas_asc p f (n+1))=m
    rw[c];exact e
   .show W7 lt _ (if lt (g p n) (g p (n-1))=true then KasT.ret n else kas_asc p f (n+1))
    rw[c];exact U
def Same (lt:Nat->Nat->Bool)(p:Array Nat)(n q:Nat):Prop:=q<n/\∀i j,n-1-q<=i->i<n->n-1-q<=j->j<n->le lt (g p i) (g p j)
theorem cG2 (O:Ord lt)(R:n<=p.size)(h:Dsc lt p n)(c:Same lt p n q):Dsc lt (kas_rev p (n-(q+1)) n) n/\(∀k,n<=k->g (kas_rev p (n-(q+1)) n) k=g p k)/\Same lt (kas_rev p (n-(q+1)) n) n q:=by
 obtain⟨Q,c⟩:=c;have e:∀k,g (kas_rev p (n-(q+1)) n) k=if n-(q+1)<=k/\k<n then g p (n-(q+1)+n-1-k) else g p k:=bF6 R;have s:∀k,k<n->le lt (g (kas_rev p (n-(q+1)) n) k) (g p k)/\le lt (g p k) (g (kas_rev p (n-(q+1)) n) k):=λk M=>by
  rw[e];split
  .exact⟨c _ _ LL LL LL OO,c _ _ LL OO LL LL⟩
  .exact⟨O.refl _,O.refl _⟩
 exact⟨λi j m U=>(O.trans _ _ _ (s j U).1 (O.trans _ _ _ (h i j m U) (s i cN6).2)),λk M=>by rw[e,Ab XX],Q,λi j h1 Y J X=>(O.trans _ _ _ (s i Y).1 (O.trans _ _ _ (c i j h1 Y J X) (s j X).2))⟩
theorem aC5 (O:Ord lt)(h1:1<=n)(h:Dsc lt p n)(m:le lt (g p n) (g p (n-1))):Dsc lt p (n+1):=λi j c Y=>by
 by_cases e:j=n
 .subst e;by_cases s:i=j
  .subst s;exact O.refl _
  .exact O.trans _ _ _ m (h i (j-1) LL OO)
 .exact h i j c LL
theorem aW7 (O:Ord lt){P:Nat->Prop}{N:Nat}:∀(f:Nat) (p:Array Nat) (n q:Nat),1<=n->n+f<=N->N<=p.size->(∀j,j<N->P (g p j))->Dsc lt p n->Same lt p n q ->
  ∃p' m q',ev lt (kas_desc f p n q)=(p',m,q')/\p'.Perm p/\n<=m/\m<=n+f/\Dsc lt p' m/\Same lt p' m q'/\(∀j,j<N->P (g p' j))/\W7 lt P (kas_desc f p n q)
 | 0,p,n,q,h1,hN,hz,hP,h,s=>⟨p,n,q,rfl,Array.Perm.refl _,Aa7 _,Aa7 _,h,s,hP,trivial⟩
 | f+1,p,n,q,h1,hN,hz,hP,h,s=>by
  have sh:∀c:Bool,lt (g p n) (g p (n-1))=c->ev lt (kas_desc (f+1) p n q)=ev lt (if c=true then(if q>0 then kas_desc f (kas_rev p (n-(q+1)) n) (n+1) 0 else kas_desc f p (n+1) 0)
    else .ask (g p (n-1)) (g p n) λd=>if d=true then .ret (p,n,q) else kas_desc f p (n+1) (q+1)):=λc e=>by subst e;rfl
  have Y:∀c:Bool,lt (g p n) (g p (n-1))=c->W7 lt P (if c=true then(if q>0 then kas_desc f (kas_rev p (n-(q+1)) n) (n+1) 0 else kas_desc f p (n+1) 0)
    else .ask (g p (n-1)) (g p n) λd=>if d=true then .ret (p,n,q) else kas_desc f p (n+1) (q+1))->W7 lt P (kas_desc (f+1) p n q):=λc e hh=>by subst e;exact⟨hP n LL,hP (n-1) LL,hh⟩
  cases X:lt (g p n) (g p (n-1)) with
  | true=>
   rw[sh true X,Ac rfl];have Y:=Y true X;by_cases hq:q>0
   .rw[Ac hq]at Y ⊢;obtain⟨d1,d2,d3⟩:=cG2 O LL h s
    have hl:le lt (g (kas_rev p (n-(q+1)) n) n) (g (kas_rev p (n-(q+1)) n) (n-1)):=by
     rw[d2 n (Aa7 _),bF6 LL,Ac LL]
     exact O.trans _ _ _ (O.of_lt X) (s.2 _ _ SS LL (by have:=s.1;lia) (by have:=s.1;lia))
    obtain⟨p',m,q',J,M,a2,a3,R,Q,D,F⟩:=aW7 O (N:=N) f (kas_rev p (n-(q+1)) n) (n+1) 0 SS LL (by unfold kas_rev;rw[mirror_size];exact hz) (λj hj=>by
     rw[bF6 LL]
     split
     .exact hP _ (by have:=s.1;lia)
     .exact hP j hj) (aC5 O h1 d1 hl) ⟨SS,λi j b1 B b3 b4=>by
      have:i=j:=by lia
      subst this;exact O.refl _⟩
    exact⟨p',m,q',J,M.trans (mirror_perm _ _ _ _),zq1,LL,R,Q,D,Y F⟩
   .rw[Ab hq]at Y ⊢;obtain⟨p',m,q',J,M,a2,a3,R,Q,D,F⟩:=aW7 O f p (n+1) 0 SS LL hz hP (aC5 O h1 h (O.of_lt X)) ⟨SS,λi j b1 B b3 b4=>by
      have:i=j:=by lia
      subst this;exact O.refl _⟩
    exact⟨p',m,q',J,M,zq1,LL,R,Q,D,Y F⟩
  | false=>
   rw[sh false X,Ab Ao];have Y:=Y false X;cases U:lt (g p (n-1)) (g p n) with
   | true=>
    refine⟨p,n,q,?_,Array.Perm.refl _,Aa7 _,SS,h,s,hP,Y ⟨hP _ LL,hP _ LL,?_⟩⟩
    .show ev lt (if lt (g p (n-1)) (g p n)=true then _ else _)=_
     rw[U];rfl
    .rw[U];exact trivial
   | false=>
    obtain⟨hq,s⟩:=s;have s':Same lt p (n+1) (q+1):=⟨XX,λi j b1 B b3 b4=>by
     have up:∀i,n-1-q<=i->i<n+1->le lt (g p i) (g p (n-1))/\le lt (g p (n-1)) (g p i):=λi c1 c2=>by
      by_cases e:i=n
      .subst e;exact⟨U,X⟩
      .exact⟨s i (n-1) c1 LL SS LL,s (n-1) i SS LL c1 LL⟩
     exact O.trans _ _ _ (up i LL B).1 (up j LL b4).2⟩
    obtain⟨p',m,q',J,M,a2,a3,R,Q,D,F⟩:=aW7 O f p (n+1) (q+1) SS LL hz hP (aC5 O h1 h U) s'
    refine⟨p',m,q',?_,M,zq1,LL,R,Q,D,Y ⟨hP _ LL,hP _ LL,?_⟩⟩
    .show ev lt (if lt (g p (n-1)) (g p n)=true then _ else _)=_
     rw[U];exact J
    .rw[U];exact F
theorem dN4 (O:Ord lt)(e:∀j,j<N->P (g p j))(h1:1<=n)(hN:n+f<=N)(h:Srt lt p n):W7 lt P (kas_asc p f n):=by
 obtain⟨_,_,_,_,_,_,a⟩:=bN9 O f n h1 hN h;have up:∀{α:Type} (t:KasT α),W7 lt (λi=>∃j,j<N/\i=g p j) t->W7 lt P t:=λ{α} t=>by
  induction t with
  | ret _=>exact λz=>z
  | ask i j k m=>
   rintro⟨⟨a,c,rfl⟩,⟨b,s,rfl⟩,z⟩;exact⟨e a c,e b s,m _ z⟩
 exact up _ a
theorem bU7 (O:Ord lt)(h1:1<=n)(D:n<=N)(F:N<=p.size)(Y:∀j,j<N->P (g p j))(h:Dsc lt p n) :
  ∃m p',ev lt (kas_tail3 n N p)=(m,p')/\p'.Perm p/\1<=m/\m<=N/\Srt lt p' m/\(∀j,j<N->P (g p' j))/\W7 lt P (kas_tail3 n N p):=by
 have e:∀k,g (kas_rev p 0 n) k=if 0<=k/\k<n then g p (0+n-1-k) else g p k:=bF6 bS3
 have s:Srt lt (kas_rev p 0 n) n:=λi j M X=>by
  rw[e,e,Ac LL,Ac XX]
  exact h _ _ OO LL
 have c:∀j,j<N->P (g (kas_rev p 0 n) j):=λj X=>by
  rw[e];split
  .exact Y _ LL
  .exact Y j X
 obtain⟨m,U,R,Q,J,_,_⟩:=bN9 O (N:=N) (N-n) n h1 XX s
 refine⟨m,kas_rev p 0 n,?_,mirror_perm _ _ _ _,cV0,YY,J,c,S1 (dN4 O c h1 XX s) trivial⟩
 unfold kas_tail3;rw[j9,U];rfl
theorem aV3 (O:Ord lt)(h1:1<=n)(hn:n+1<=N)(hz:N<=p.size)(hP:∀j,j<N->P (g p j))(h:Dsc lt p (n+1)) :
  ∃m p',ev lt (kas_descPart n N p)=(m,p')/\p'.Perm p/\1<=m/\m<=N/\Srt lt p' m/\(∀j,j<N->P (g p' j))/\W7 lt P (kas_descPart n N p):=by
 obtain⟨p1,m1,q1,e,J,a2,a3,B,a5,M,a7⟩:=aW7 O (N-(n+1)) p (n+1) 0 SS XX hz hP h ⟨SS,λi j c s Y X=>by
  have:i=j:=by lia
  subst this;exact O.refl _⟩
 have z1:N<=p1.size:=by rw[J.size_eq];exact hz
 unfold kas_descPart;by_cases U:q1>0
 .obtain⟨d1,d2,d3⟩:=cG2 O LL B a5
  have F:∀j,j<N->P (g (kas_rev p1 (m1-(q1+1)) m1) j):=λj hj=>by
   rw[bF6 LL]
   split
   .exact M _ (by have:=a5.1;lia)
   .exact M j hj
  obtain⟨m,p',R,c,s,Y,X,Q,D⟩:=bU7 O bM3 YY (by unfold kas_rev;rw[mirror_size];exact z1) F d1
  refine⟨m,p',?_,c.trans ((mirror_perm _ _ _ _).trans J),s,Y,X,Q,S1 a7 ?_⟩
  .rw[j9,e];rw[Ac U];exact R
  .rw[e];rw[Ac U];exact D
 .obtain⟨m,p',R,c,s,Y,X,Q,D⟩:=bU7 O aH5 YY z1 M B
  refine⟨m,p',?_,c.trans J,s,Y,X,Q,S1 a7 ?_⟩
  .rw[j9,e];rw[Ab U];exact R
  .rw[e];rw[Ab U];exact D
theorem dB9 (O:Ord lt)(h1:1<=N)(hz:N<=p.size)(s:∀j,j<N->P (g p j)) :
  ∃m p',ev lt (kas_count N p)=(m,p')/\p'.Perm p/\1<=m/\m<=N/\Srt lt p' m/\(∀j,j<N->P (g p' j))/\W7 lt P (kas_count N p):=by
 have s1:Srt lt p 1:=λi j J Y=>by
  have:i=j:=by simp_all
  subst this;exact O.refl _
 obtain⟨n,a0,R,a2,Q,a4,_⟩:=bN9 O (N:=N) (N-1) 1 DD XX s1
 have aP:=dN4 O s (f:=N-1) DD XX s1
 have M:∀{t:KasT (Nat×Array Nat)},(if(n==N)=true then KasT.ret (n,p) else if n>1 then .ask (p.getD 0 0) (p.getD (n-1) 0) λc=>if c=true then .ret (n,p) else kas_descPart n N (kas_rev p 0 n) else kas_descPart n N p)=t ->
   (∃m p',ev lt t=(m,p')/\p'.Perm p/\1<=m/\m<=N/\Srt lt p' m/\(∀j,j<N->P (g p' j))/\W7 lt P t) ->
   ∃m p',ev lt ((kas_asc p (N-1) 1).bind λn=>if(n==N)=true then .ret (n,p) else if n>1 then .ask (p.getD 0 0) (p.getD (n-1) 0) λc=>if c=true then .ret (n,p) else kas_descPart n N (kas_rev p 0 n) else kas_descPart n N p)=(m,p')/\p'.Perm p/\1<=m/\m<=N/\Srt lt p' m/\(∀j,j<N->P (g p' j)) /\
    W7 lt P ((kas_asc p (N-1) 1).bind λn=>if(n==N)=true then .ret (n,p) else if n>1 then .ask (p.getD 0 0) (p.getD (n-1) 0) λc=>if c=true then .ret (n,p) else kas_descPart n N (kas_rev p 0 n) else kas_descPart n N p):=λ{t} e h=>by
  obtain⟨m,p',D,F,B,b3,b4,b5,b6⟩:=h;refine⟨m,p',?_,F,B,b3,b4,b5,S1 aP ?_⟩
  .rw[j9,a0,e];exact D
  .rw[a0,e];exact b6
 refine M rfl ?_;by_cases e:n=N
 .rw[Ac (by simp[e])]
  exact⟨n,p,rfl,Array.Perm.refl _,R,XX,Q,s,trivial⟩
 .rw[Ab (by simp[e])]
  have hd:=a4 LL
  by_cases h2:n>1
  .rw[Ac h2];cases U:lt (g p 0) (g p (n-1)) with
   | true=>
    refine⟨n,p,?_,Array.Perm.refl _,R,YY,Q,s,s 0 AO,s (n-1) LL,?_⟩
    .show ev lt (if lt (g p 0) (g p (n-1))=true then _ else _)=_
     rw[U];rfl
    .show W7 lt P (if lt (g p 0) (g p (n-1))=true then _ else _)
     rw[U];exact trivial
   | false=>
    have al:=λi j hi Y=>O.trans _ _ _ (Q i (n-1) OO LL) (O.trans _ _ _ U (Q 0 j SS Y))
    have X:∀k,g (kas_rev p 0 n) k=if 0<=k/\k<n then g p (0+n-1-k) else g p k:=bF6 LL
    have ds:Dsc lt (kas_rev p 0 n) (n+1):=by
     refine aC5 O R (λi j J Y=>?_) ?_
     .rw[X,X,Ac XX,Ac LL]
      exact al _ _ SS LL
     .rw[X,X,Ab SS,Ac LL]
      exact O.trans _ _ _ (O.of_lt hd) (al _ _ SS LL)
    have hP':∀j,j<N->P (g (kas_rev p 0 n) j):=λj Y=>by
     rw[X];split
     .exact s _ LL
     .exact s j Y
    obtain⟨m,p',D,F,B,b3,b4,b5,b6⟩:=aV3 O R LL (by unfold kas_rev;rw[mirror_size];exact hz) hP' ds
    refine⟨m,p',?_,F.trans (mirror_perm _ _ _ _),B,b3,b4,b5,s 0 AO,s (n-1) LL,?_⟩
    .show ev lt (if lt (g p 0) (g p (n-1))=true then _ else _)=_
     rw[U];exact D
    .show W7 lt P (if lt (g p 0) (g p (n-1))=true then _ else _)
     rw[U];exact b6
  .have n1:n=1:=by lia
   subst n1;exact aV3 O (Aa7 _) bC1 hz s (aC5 O (Aa7 _) (λi j J Y=>by
    have:i=j:=by simp_all
    subst this;exact O.refl _) (O.of_lt hd))
theorem aY6 (O:Ord lt){P:Nat->Prop}{p:Array Nat}{k N:Nat}(X:k<N)(c:∀j,j<N->P (g p j))(U:Srt lt p k):∀(f l r:Nat),l<=r->r<=k->r-l<=f->(∀i,i<l->le lt (g p i) (g p k))->(∀i,r<=i->i<k->lt (g p k) (g p i)=true) ->
  ∃m,ev lt (kas_place p k f l r)=m/\m<=k/\(∀i,i<m->le lt (g p i) (g p k))/\(∀i,m<=i->i<k->lt (g p k) (g p i)=true)/\W7 lt P (kas_place p k f l r)
 | 0,l,r,h1,h2,h3,h4,h5=>⟨l,rfl,bS3,h4,λi a b=>h5 i LL b,trivial⟩
 | f+1,l,r,h1,h2,h3,h4,h5=>by
  unfold kas_place;by_cases Y:l≥r
  .rw[Ac Y];exact⟨l,rfl,bS3,h4,λi a b=>h5 i bS3 b,trivial⟩
  .rw[Ab Y];cases s:lt (g p k) (g p ((l+r) / 2)) with
   | true=>
    obtain⟨m,J,M,R,Q,D⟩:=aY6 O X c U f l ((l+r) / 2) LL LL LL h4 (λi F B=>by
     cases e:lt (g p k) (g p i) with
     | true=>rfl
     | false=>
      have:=O.trans _ _ _ (U _ _ F B) e
      rw[s]at this;cases this)
    refine⟨m,?_,M,R,Q,c k X,c _ LL,?_⟩
    .show ev lt (if lt (g p k) (g p ((l+r) / 2))=true then _ else _)=_
     rw[s];exact J
    .show W7 lt P (if lt (g p k) (g p ((l+r) / 2))=true then _ else _)
     rw[s];exact D
   | false=>
    obtain⟨m,J,M,R,Q,D⟩:=aY6 O X c U f ((l+r) / 2+1) r LL OO LL (λi F=>O.trans _ _ _ (U i ((l+r) / 2) dX1 LL) s) h5
    refine⟨m,?_,M,R,Q,c k X,c _ LL,?_⟩
    .show ev lt (if lt (g p k) (g p ((l+r) / 2))=true then _ else _)=_
     rw[s];exact J
    .show W7 lt P (if lt (g p k) (g p ((l+r) / 2))=true then _ else _)
     rw[s];exact D
theorem cU6 (O:Ord lt){P:Nat->Prop}{N:Nat}:∀(f:Nat) (p:Array Nat) (k:Nat),k+f=N->N<=p.size->(∀j,j<N->P (g p j))->Srt lt p k ->
  ∃p',ev lt (kas_bin f p k)=p'/\p'.Perm p/\Srt lt p' N/\W7 lt P (kas_bin f p k)
 | 0,p,k,hN,hz,hP,h=>⟨p,rfl,Array.Perm.refl _,(show k=N from hN)▸h,trivial⟩
 | f+1,p,k,hN,hz,hP,h=>by
  obtain⟨l,Y,M,R,Q,D⟩:=aY6 O LL hP h k 0 k SS SS SS (λi z=>absurd z (Nat.not_lt_zero _)) (λi a b=>by lia)
  have e:∀i,g (bubble p k (k-l)) i=if i=l then g p k else if l<i/\i<=k then g p (i-1) else g p i:=dZ3 LL M
  have s':Srt lt (bubble p k (k-l)) (k+1):=λi j m hj=>by
   rw[e,e];by_cases J:i=l
   .rw[Ac J];by_cases c:j=l
    .rw[Ac c];exact O.refl _
    .rw[Ab c,Ac LL]
     exact O.of_lt (Q _ LL LL)
   .rw[Ab J];by_cases c:j=l
    .rw[Ac c,Ab LL]
     exact R i LL
    .rw[Ab c];by_cases X:l<i/\i<=k
     .rw[Ac X,Ac LL]
      exact h _ _ LL LL
     .rw[Ab X];by_cases U:l<j/\j<=k
      .rw[Ac U];exact h _ _ LL LL
      .rw[Ab U];exact h _ _ m LL
  have s:∀j,j<N->P (g (bubble p k (k-l)) j):=λj hj=>by
   rw[e]
   repeat' split
   all_goals exact hP _ LL
  obtain⟨p',F,B,b2,b3⟩:=cU6 O f (bubble p k (k-l)) (k+1) LL (by rw[bubble_size];exact hz) s s'
  refine⟨p',?_,B.trans (bubble_perm _ _ _),b2,?_⟩
  .show ev lt ((kas_place p k k 0 k).bind λl=>kas_bin f (bubble p k (k-l)) (k+1))=p'
   rw[j9,Y];exact F
  .exact S1 D (by rw[Y];exact b3)
theorem cF0 (O:Ord lt)(h1:1<=N):∃p',ev lt (kas_sort N)=p'/\p'.Perm (List.toArray (List.range N))/\Srt lt p' N/\W7 lt (λi=>i<N) (kas_sort N):=by
 have B:∀j,j<N->g (List.toArray (List.range N)) j<N:=λj hj=>by
  rw[aV4];simp[hj]
 obtain⟨m,Y,e,s,a2,a3,X,M,U⟩:=dB9 O (P:=λi=>i<N) h1 SS B
 have z1:N<=Y.size:=by rw[s.size_eq];simp
 unfold kas_sort;by_cases c:m<N
 .have J:max m 1=m:=by simp[*]
  obtain⟨p',R,Q,D,F⟩:=cU6 O (P:=λi=>i<N) (N-m) Y m XX z1 M X
  refine⟨p',?_,Q.trans s,D,S1 U ?_⟩
  .rw[j9,e];rw[Ac c,J];exact R
  .rw[e];rw[Ac c,J];exact F
 .have:m=N:=by lia
  refine⟨Y,?_,s,this▸X,S1 U ?_⟩
  .rw[j9,e];rw[Ab c];rfl
  .rw[e];rw[Ab c];exact trivial
end
end LS
namespace LV
open PySem PySem.Spec PyProof.Rows L2 PySem.W Att
section
variable {P:Program}{w:World}{A:Around}{s:Shared}{Q:Bool->Shared->Prop}
theorem aL8 (a b:Int)(e bs:AF):HT.s9 (a::e) (b::bs)=if a=b then HT.s9 e bs else decide (a<b):=rfl
theorem aD0:∀{xs ys:AH} {as bs:AF} (i:Nat),IntsAre xs as->IntsAre ys bs->Q (HT.s9 as bs) s->KatLex P w A true (decide (as.length<bs.length)) Q (xs.zip ys) i s
 | _,_,_,_,i,.nil,.nil,h=>h
 | _,_,_,_,i,.nil,@IntsAre.cons n t vs ns r,h=>by
  have e:decide (([]:AF).length<(n::ns).length)=true:=by simp
  exact h
 | _,_,_,_,i,@IntsAre.cons n t vs ns r,.nil,h=>by
  have e:decide ((n::ns).length<([]:AF).length)=false:=by simp
  exact h
 | _,_,_,_,i,@IntsAre.cons a t xs as ra,@IntsAre.cons b u ys bs rb,h=>by
  rw[aL8]at h;refine kat_cons ?_;refine SeqAt.EqAt.int_int a t b u P w _ _ ?_;by_cases e:a=b
  .subst e;rw[Ac rfl]at h
   have:(a==a)=true:=by simp
   rw[this];have e2:decide ((a::as).length<(a::bs).length)=decide (as.length<bs.length):=by simp
   rw[e2];exact aD0 (i+1) ra rb h
  .rw[Ab e]at h
   have:(a==b)=false:=by simpa using e
   rw[this];refine kat_no ?_;cases hb:(true&&i==0) with
   | true=>exact oneLt_int h
   | false=>exact kat_one _ _ (lt_int h)
theorem bC4:∀a b:AF,HT.s9 a b=true->HT.s9 b a=false
 | [],[],h=>by cases h
 | [],_::_,_=>rfl
 | _::_,[],h=>by cases h
 | x::xs,y::ys,h=>by
  rw[aL8]at h ⊢;by_cases e:x=y
  .subst e;rw[Ac rfl]at h ⊢;exact bC4 xs ys h
  .rw[Ab e]at h;rw[Ab (λz=>e z.symm)]
   have:=Ap h
   exact Aj LL
def J7 (a b:AF):Prop:=HT.s9 b a=false
theorem aG1:∀a b c:AF,J7 a b->J7 b c->J7 a c
 | [],_,[],_,_=>rfl
 | [],_,_::_,_,_=>rfl
 | _::_,[],_,h,_=>by cases h
 | _::_,_::_,[],_,h=>by cases h
 | x::xs,y::ys,z::zs,h1,e=>by
  unfold J7 at *;rw[aL8]at *;by_cases m:y=x
  .subst m;rw[Ac rfl]at h1;by_cases j:z=y
   .subst j;rw[Ac rfl]at e ⊢;exact aG1 xs ys zs h1 e
   .rw[Ab j]at e ⊢;exact e
  .rw[Ab m]at h1;have h1:=Bl h1;by_cases j:z=y
   .subst j;rw[Ab m];exact Aj h1
   .rw[Ab j]at e;have e:=Bl e;rw[Ab LL]
    exact Aj OO
theorem aD9:∀a b:AF,J7 a b->J7 b a->a=b
 | [],[],_,_=>rfl
 | [],_::_,_,h=>by cases h
 | _::_,[],h,_=>by cases h
 | x::xs,y::ys,h1,j=>by
  unfold J7 at *;rw[aL8]at *;by_cases e:x=y
  .subst e;rw[Ac rfl]at h1 j;rw[aD9 xs ys h1 j]
  .rw[Ab (λz=>e z.symm)]at h1
   rw[Ab e]at j;have h1:=Bl h1;have j:=Bl j
   lia
theorem bG6 (a b:AF):J7 a b\/J7 b a:=by
 unfold J7;cases h:HT.s9 b a with
 | false=>exact .inl rfl
 | true=>exact .inr (bC4 b a h)
theorem cG7 (ts:Nat->AF):LS.Ord λi j=>HT.s9 (ts i) (ts j):=
 ⟨λa b h=>bC4 _ _ h,λa b c h1 e=>aG1 _ _ _ h1 e⟩
def TupsAt (h:Heap):AH->AC->Prop
 | [],[]=>True
 | v::vs,t::ts=>(∃a its,v=.ref a/\IsTup h a its/\IntsAre its.toList t/\t≠[])/\TupsAt h vs ts
 | _,_=>False
theorem TupsAt.length:∀{vs:AH} {ts:AC},TupsAt h vs ts->vs.length=ts.length
 | [],[],_=>rfl
 | _::_,_::_,r=>by simp[TupsAt.length r.2]
 | [],_::_,r=>r.elim
 | _::_,[],r=>r.elim
theorem TupsAt.get {h:Heap}:∀{vs:AH} {ts:AC} {i:Nat},TupsAt h vs ts->i<ts.length->∃a its,vs.getD i .none=.ref a/\IsTup h a its/\IntsAre its.toList (ts.getD i [])
 | v::vs,t::ts,0,⟨⟨a,its,e,h1,h2,_⟩,_⟩,_=>⟨a,its,e,h1,h2⟩
 | v::vs,t::ts,i+1,⟨_,r⟩,hi=>TupsAt.get (i:=i) r (by simpa using hi)
 | [],[],_,_,hi=>by simp at hi
 | [],_::_,_,r,_=>r.elim
 | _::_,[],_,r,_=>r.elim
theorem TupsAt.keep {h h':Heap}:∀{vs:AH} {ts:AC},TupsAt h vs ts->(∀a its,Value.ref a∈vs->IsTup h a its->IsTup h' a its)->TupsAt h' vs ts
 | [],[],_,_=>trivial
 | v::vs,t::ts,⟨⟨a,its,e,h1,h2,h3⟩,r⟩,k=>⟨⟨a,its,e,k a its (by rw[e];simp) h1,h2,h3⟩,r.keep λa its j=>k a its (Ad4 _ j)⟩
 | [],_::_,r,_=>r.elim
 | _::_,[],r,_=>r.elim
theorem TupsAt.kat:∀{vs:AH} {ts:AC},TupsAt h vs ts->∃fs,KatTups h vs fs/\fs.length=vs.length/\∀f∈fs,∃i t,f=Value.int i t
 | [],[],_=>⟨[],.nil,rfl,SS⟩
 | v::vs,t::ts,⟨⟨a,its,e,⟨o,ho,hc,n,hd⟩,h2,h3⟩,r⟩=>by
  obtain⟨fs,k1,k2,k3⟩:=r.kat;subst e;obtain⟨l⟩:=its;cases h2 with
  | nil=>exact absurd rfl h3
  | cons i u r'=>
   refine⟨.int i u::fs,.cons ho hc hd SS k1,by simp[k2],λf hf=>?_⟩
   rcases Aa1.mp hf with rfl | hf
   .exact⟨_,_,rfl⟩
   .exact k3 f hf
 | [],_::_,r=>r.elim
 | _::_,[],r=>r.elim
end
section
variable {P:Program}{w:World}{A:Around}{s:Shared}{E:Ed}
theorem bW9 (hL:s.heap.Ns L m)(hl:s.heap.IsList l vs.toArray)(ht:TupsAt s.heap vs ts)(U:∀a,Value.ref a∈vs->a≠L)(h2:2<=vs.length)(h64:vs.length<64)
  (h:∀h' D (p:AD) c,h'.Ns L m->(∀b o,b≠L->s.heap.get? b=some o->h'.get? b=some o)->s.heap.get? D=none->h'.get? D=some {cls:=.type "list",data:=.seq (p.map λi=>vs.getD i .none).toArray c}->p.Perm (List.range vs.length)->(p.map λi=>ts.getD i []).Pairwise J7->Q (.ref D) {s with heap:=h'}) :
  wpAny (model P w) A (call (.builtin "sorted") [.ref l]) Q E s:=by
 have hlen:=ht.length
 refine kat_sorted (cX8 hL) bX9 hl h2 h64 λD e1 h' F' N' hD=>?_
 have kp:=λb o hb e=>(N' (b,o) (Ad4 _ (S4 hb (U6 _ _) e))).1
 have DL:=(N' _ Az).2.1
 have hDs:s.heap.get? D=none:=by
  cases e:s.heap.get? D with
  | none=>rfl
  | some o=>exact absurd (hD (D,o) (S4 DL (U6 _ _) e)) (Ad9 _)
 have Y:=ht.keep λa its ha ⟨o,e,r⟩=>⟨o,kp a o (U a ha) e,r⟩
 obtain⟨fs,k1,k2,k3⟩:=Y.kat;refine kat_kind k1 LL (T:=.type "int") (λv hv=>?_) DD ?_
 .obtain⟨i,t,rfl⟩:=k3 v hv;exact λA Q E s _ q=>wpAny_of_eq (show typeOf (Value.int i t)=pure (.type "int") from rfl) q
 have et:(Value.type "int" != Value.type "tuple")=true:=by decide
 obtain⟨R,e0,hp,hs,ha⟩:=LS.cF0 (cG7 λi=>ts.getD i []) (N:=vs.length) zq1
 refine LS.cX3 (λi j C hi hj hC=>?_) _ ha ?_
 .obtain⟨a,its,e,⟨o,h1,c1,n1,d1⟩,r1⟩:=Y.get (i:=i) YY
  obtain⟨a',M,e',⟨o',h1',c1',n1',d1'⟩,F⟩:=Y.get (i:=j) YY
  unfold kas_ask;rw[e,e'];refine kat_lt h1 d1 h1' d1' ?_;have el:decide (its.size<M.size)=decide ((ts.getD i []).length<(ts.getD j []).length):=by
   have a1:=r1.length;have a2:=F.length
   simp only[Bb]at a1 a2;rw[a1,a2]
  rw[el];exact aD0 0 r1 F hC
 .rw[e0];refine KasFin.intro F' N' (.head λp hp z=>?_) λh'' c B X=>?_
  .have:=hD p hp
   rw[z]at this;exact absurd this (Ad9 _)
  .have kp2:=λb o hb e=>(X (b,o) (Ad4 _ (S4 hb (U6 _ _) e))).1
   have J:R.toList.Perm (List.range vs.length):=by simpa using(Array.perm_iff_toList_perm.mp hp)
   refine h h'' D R.toList c B.ns kp2 hDs (X _ Az).1 J ?_;rw[Ae0,List.pairwise_iff_getElem];intro i j hi hj hij;have hz:R.toList.length=vs.length:=by rw[J.length_eq];simp
   have:=hs i j (Cm hij) YY
   rw[LS.aV4,LS.aV4]at this;have hi':i<R.size:=by simpa using hi
   have hj':j<R.size:=by simpa using hj
   simp  [Bi hi',Bi hj',Option.getD_some]at this
   unfold J7;simpa using this
theorem aV6 (ho:s.heap.get? a=some (seqObj "list" vs.toArray n))(X:vs.length<2)
  (h:P' (.done (.ret .none)) {s with heap:=sortedHeap s.heap a vs vs.toArray}):wpAny (model P w) A (Builtin.«list.sort» ⟨[.ref a],[]⟩) P' E s:=by
 rw[list_sort_plain];have U:=Ab3 ho;refine Aa (listItems_at ho rfl ?_);refine Aa (listUpdate_at ho rfl ?_);obtain⟨Y,j⟩:∃Y,(s.heap.update a (Obj.mapSeq λ_ => #[])).get? a=some (seqObj "list" #[] Y):=⟨_,get?_update_seq ho (λ_ => #[])⟩
 refine Aa (seqEpoch_at j rfl ?_);refine Aa (wpAny_newTuple ?_);refine Aa (wpAny_newList ?_);refine Cg ?_;have c:(((s.heap.update a (Obj.mapSeq λ_ => #[])).push (seqObj "tuple" vs.toArray 0)).push (seqObj "list" #[] 0)).get? a=some (seqObj "list" #[] Y):=by
  rw[Heap.get?_push_ne _ _ _ (by rw[size_push',Heap.size_update];exact Ab9 (Dh U)),Heap.get?_push_ne _ _ _ (by rw[Heap.size_update];exact Ab9 U)]
  exact j
 have m:vs.toArray.size<2:=by simpa using X
 rw[Ac m,Ac m];refine Aa (Ae ?_);refine Aa (Ae ?_);refine Aa (seqEpoch_at c rfl ?_);refine Aa (listUpdate_at c rfl ?_ (hsz2:=by rw[Array.size_map];show(pairsOf vs).size<=_;rw[pairsOf_size,Dt];lia))
 simp only[bne_self_eq_false,Dz,if_false];refine Ae ?_;have e:(arrOf (SortSt.mk' general' (vs.toArray.zip vs.toArray) #[] 7 none)).map (·.2)=vs.toArray:=by
  show(vs.toArray.zip vs.toArray).map (·.2)=vs.toArray
  refine Array.ext SS λi h1 X=>by simp
 have J:=h
 rw[e];exact J
theorem bK6 (m:s.heap.IsList l vs.toArray)(c:vs.length<2)
  (h:Q (.ref (s.heap.objs.size+1)) {s with heap:=sortedAll s.heap vs vs.toArray}):wpAny (model P w) A (call (.builtin "sorted") [.ref l]) Q E s:=by
 refine Calls.call_function_entry kind_sorted plain_sorted entry_sorted (args_sorted1 _) ?_;refine Aa (Ae ?_);refine Aa (collect_list m ?_ (by rw[Dt];lia))
 refine Aa (wpAny_newList ?_ (by rw[Dt];lia))
 have j:((s.heap.push (seqObj "list" #[] 0)).update s.heap.objs.size (Obj.mapSeq (· ++ vs.toArray))).objs.size=s.heap.objs.size+1:=by
  rw[Heap.size_update,size_push']
 have e:(((s.heap.push (seqObj "list" #[] 0)).update s.heap.objs.size (Obj.mapSeq (· ++ vs.toArray))).push (seqObj "list" vs.toArray 0)).get? (s.heap.objs.size+1)=some (seqObj "list" vs.toArray 0):=by
  rw[<- j];exact Ac3 _ rfl
 rw[j];exact Aa (Cg (Cj slot_list_sort ⟨_,e,rfl⟩ entry_list_sort (aV6 e c ⟨_,rfl,(Ae ⟨_,rfl,h⟩)⟩) (args_list_sort _)))
end
section
theorem bR4:∀(o:HO),ObjOk P w H h a o->∃u,h.get? a=some u
 | .lst _,⟨_,its,n,_,e⟩=>⟨_,e⟩
 | .tup _,⟨_,its,_,o,e,_⟩=>⟨_,e⟩
 | .dK _,⟨_,_,vs,_,o,j,n,e,_⟩=>⟨_,e⟩
 | .dT _,⟨_,_,xs,_,o,j,s,e,_⟩=>⟨_,e⟩
 | .set _ _,⟨o,j,s,t,e,_⟩=>⟨_,e⟩
 | .ins _ _ _,⟨_,_,_,e,_⟩=>⟨_,e⟩
 | .own _,e=>e
 | .xd _,⟨m,⟨o,h1⟩,_⟩=>by
  first
  | exact⟨_,h1.1⟩
  | (obtain⟨_,_,c,_⟩:=h1;exact⟨_,c⟩)
  | (exact⟨_,c⟩)
 | .met _ _,e=>⟨_,e⟩
 | .rng _ _,⟨_,_,_,e⟩=>⟨_,e⟩
 | .frz _ _,⟨e,_⟩=>⟨_,e⟩
 | .tbl _,e=>⟨_,e⟩
 | .ext _,⟨_,e,_⟩=>e
theorem z6 {σ:L2.St}(I:Inv X aA σ H s)(hL:s.heap.Ns X.env.locals m)(J:h'.Ns X.env.locals m)(kp:∀b o,b≠X.env.locals->s.heap.get? b=some o->h'.get? b=some o)
  (B:s.heap.get? D=none) (e:h'.get? D=some {cls:=.type "list",data:=.seq its.toArray c}) (rv:Vals ys its) (hz:ys.length<=sizeLine):H D=none/\Inv X aA σ (upd H D (.lst ys)) {s with heap:=h'}:=by
 have F:H D=none:=by
  cases q:H D with
  | none=>rfl
  | some o=>obtain⟨u,P⟩:=bR4 o (I.hok D o q);rw[B]at P;cases P
 have nD:∀b o,s.heap.get? b=some o->b≠D:=λb o q z=>by rw[z,B]at q;cases q
 have M:∀b o,H b=some o->b≠D:=λb o q z=>by rw[z,F]at q;cases q
 refine⟨F,?_⟩;refine I.step (ch:=[]) SS (λb o j _ _ q _=>kp b o j q) (λb o j _ _ q _=>⟨o.slots,kp b o j q⟩) (λb o _ q n=>by rw[C1 (nD b o q)];exact n) (λb o _ q=>?_)
  (λb xs q=>by rw[C1 (M b _ q)];exact q) (λb o u q=>by rw[C1 (M b _ q)];exact q) (λb ps q=>⟨#[],by rw[C1 (M b _ q)];simpa using q⟩) (λm' R=>?_) (λb o q=>?_) I.bare
 .by_cases j:b=X.env.locals
  .subst j;obtain⟨o',_,_,Q,_⟩:=J;exact⟨o',Q⟩
  .exact⟨o,kp b o j q⟩
 .rw[R.eq_nsMap,<- hL.eq_nsMap];exact J
 .by_cases j:b=D
  .subst j;rw[C7]at q;cases q;exact⟨hz,its,c,rv,e⟩
  .rw[C1 j]at q;refine(I.hok b o q).stay (λU v hc Y=>kp U v ?_ Y) (λU Y=>by rw[C1 (M U _ Y)];exact Y) λU xs Y=>by rw[C1 (M U _ Y)];exact Y
   rcases hc with z | z
   .rw[z];exact F2 q I.free
   .exact F2 z I.free
end
def TupsV (K:Frag)(H:Hp):List V->AC->Prop
 | [],[]=>True
 | v::vs,t::ts=>(∃a,v=.ref a/\SqT K H a (t.map V.int)/\t≠[])/\TupsV K H vs ts
 | _,_=>False
theorem TupsV.length {K:Frag}:∀{vs:List V} {ts:AC},TupsV K H vs ts->vs.length=ts.length
 | [],[],_=>rfl
 | _::_,_::_,r=>by simp[TupsV.length r.2]
 | [],_::_,r=>r.elim
 | _::_,[],r=>r.elim
section
theorem dG4 (I:Inv X aA σ H s)(h:SqT X.K H a xs):a≠X.env.locals:=by
 rcases h with (h | ⟨o,h⟩) | ⟨o,its,n,e,_⟩
 .exact F2 h I.free
 .exact F2 h I.free
 .have:=Ab3 (I.mod.kin a o e)
  exact Ab9 (Ab8 this (Aq I.ok.bsz I.ok.above))
theorem aW2 (I:Inv X aA σ H s):∀{vs:List V} {ts:AC} {us:AH},TupsV X.K H vs ts->Vals vs us->TupsAt s.heap us ts/\∀a,Value.ref a∈us->a≠X.env.locals
 | [],[],_,_,r=>by cases r;exact⟨trivial,λa h=>by simp at h⟩
 | v::vs,t::ts,_,⟨⟨a,e,sq,ne⟩,h⟩,r=>by
  subst e;cases r with
  | cons c m=>
   cases c
   obtain⟨h1,j⟩:=aW2 I h m;obtain⟨its,Y,p,_⟩:=I.tuple sq;refine⟨⟨⟨a,its.toArray,rfl,p,by simpa using N9 Y,ne⟩,h1⟩,λb hb=>?_⟩
   rcases Aa1.mp hb with e | hb
   .cases e;exact dG4 I sq
   .exact j b hb
 | [],_::_,_,h,_=>h.elim
 | _::_,[],_,h,_=>h.elim
theorem aF9 (r:Vals vs us):∀{q:AD},(∀i∈q,i<vs.length)->Vals (q.map λi=>vs.getD i .non) (q.map λi=>us.getD i .none)
 | [],_=>.nil
 | i::q,h=>by
  have hi:=h i SS
  obtain⟨u,h1,s⟩:=r.get (Aa2 hi);refine .cons ?_ (aF9 r λj m=>h j (by simp[m]))
  have e:vs.getD i .non=vs[i]:=by simp[List.getD,hi]
  have c:us.getD i .none=u:=by simp[List.getD,h1]
  show RelV (vs.getD i .non) (us.getD i .none)
  rw[e,c];exact s
end
section
theorem L5 (K:Frag)(h:X.K=K:=by rfl):Q4 X (.builtin "sorted") (λxs H Q=>∃(p:Addr) (ys:List V) (ts:AC),xs=[.ref p]/\SqL K H p ys/\TupsV K H ys ts/\ys.length<64 /\
  ∀a (q:AD),H a=none->q.Perm (List.range ys.length)->(q.map λi=>ts.getD i []).Pairwise J7->Q (.ref a) (upd H a (.lst (q.map λi=>ys.getD i .non)))):=by
 subst h;intro aA s σ H xs us Q I r ⟨p,ys,ts,e,hq,P,h64,q⟩;subst e;obtain⟨u,rfl,rx⟩:=U4 r;cases rx;obtain⟨its,U,pl,hz⟩:=I.list hq;have j:=U.length;have htl:=P.length;by_cases Y:its.length<2
 .refine bK6 pl.isList Y ?_;obtain⟨e,he⟩:=sortedAll_at s.heap its its.toArray;have fin:=q (s.heap.objs.size+1) (List.range ys.length) (I.hok.fresh (Nat.le_succ _)) (.refl _) (by
   rw[j]
   match its.length,Y with
   | 0,_=>simp
   | 1,_=>simp[Bq])
  have J:((List.range ys.length).map λi=>ys.getD i .non)=ys:=by
   refine List.ext_getElem SS λi h1 Y=>?_
   simp[List.getD,Y]
  rw[J]at fin;exact⟨.ref _,_,I.laid (λb o e=>sortedAll_old e) (Nat.le_succ _) (show ObjOk X.prog X.w _ _ _ (.lst ys) from⟨hz,its,e,U,he⟩),rfl,fin⟩
 .obtain⟨m,B,_⟩:=I.loc;obtain⟨ta,tl⟩:=aW2 I P U;refine bW9 B pl.isList ta tl YY YY λh' D pp c M kp hD J hp hs=>?_
  have R:∀i∈pp,i<ys.length:=λi hi=>by have:=Ab5.mp (hp.mem_iff.mp hi);simp[*]
  have F:=aF9 U R
  obtain⟨HD,I'⟩:=z6 I B M kp hD J F (by rw[Aa3,hp.length_eq,Cd];simp_all)
  exact⟨.ref D,_,I',rfl,q D pp HD (by rw[j];exact hp) hs⟩
end
end LV
namespace LV
open PySem L2
section
abbrev lI (l:AF):PyData:=.list (l.map .int)
abbrev tI (l:AF):PyData:=.tuple (l.map .int)
theorem o8:∀l:AF,K5 (l.map .int)=true
 | []=>rfl
 | _::l=>by simp[K5,imm,o8 l]
theorem e7 {α:Type}{f:α->PyData}(h:∀a,imm (f a)=true):∀l:List α,K5 (l.map f)=true
 | []=>rfl
 | a::l=>by simp[K5,h a,e7 h l]
theorem bB5 (l:AF):imm (tI l)=true:=by simp[imm,o8 l]
theorem bM1:∀{l:AG},(∀d∈l,imm d=true)->K5 l=true
 | [],_=>rfl
 | a::l,h=>by simp[K5,h a SS,bM1 (l:=l) λd hd=>h d (by simp[hd])]
theorem cG1 (i:Int):Fit (.int i):=⟨rfl,by simp[PyData.depth]⟩
def FitN (n:Nat)(d:PyData):Prop:=d.canLay0=true/\d.depth<=n
theorem dB2 (n:Nat)(i:Int):FitN n (.int i):=⟨rfl,by simp[PyData.depth]⟩
theorem aZ7:∀{l:AG},(∀d∈l,FitN n d)->PyData.canLayAll0 l=true/\PyData.depthAll l<=n
 | [],_=>⟨rfl,by simp[PyData.depthAll]⟩
 | a::l,h=>by
  obtain⟨h1,h2⟩:=h a SS
  obtain⟨h3,h4⟩:=aZ7 (l:=l) λd e=>h d (by simp[e])
  exact⟨by simp[PyData.canLayAll0,h1,h3],by simp  [PyData.depthAll];lia⟩
theorem bY0 (h:∀d∈l,FitN n d):FitN (n+1) (.tuple l):=by
 obtain⟨a,b⟩:=aZ7 h;exact⟨by simpa[PyData.canLay0]using a,by simp  [PyData.depth];omega⟩
theorem aC8 (h:∀d∈l,FitN n d):FitN (n+1) (.list l):=by
 obtain⟨a,b⟩:=aZ7 h;exact⟨by simpa[PyData.canLay0]using a,by simp  [PyData.depth];omega⟩
theorem FitN.fit (h:FitN n d)(e:n<=32:=by decide):Fit d:=⟨h.1,Aq h.2 e⟩
theorem bV8 (l:AF):∀d∈l.map PyData.int,FitN 0 d:=λd e=>by
 obtain⟨i,_,rfl⟩:=Aa8.mp e;exact dB2 0 i
theorem dS6 (l:AF):FitN 1 (lI l):=aC8 (bV8 l)
theorem X0 (l:AF):FitN 1 (tI l):=bY0 (bV8 l)
theorem dA8 (j:E K false ta ρ d)(c:E K false tb ρ d')(h1:Fit d)(e:Fit d'):E K m (tOp (cO5 K false) ta tb) ρ (.bool (PyData.eqv d d')):=
 cD4 false false j c λS H x y Q _ s Y q=>⟨d,d',s,Y,h1,e,q _ H (L2.Same.rf _) (.bl _)⟩
theorem cJ4 (j:E K false ta ρ d)(c:E K false tb ρ d')(h1:Fit d)(e:Fit d'):E K m (tOp (cO5 K true) ta tb) ρ (.bool (!PyData.eqv d d')):=
 cD4 false false j c λS H x y Q _ s Y q=>⟨d,d',s,Y,h1,e,q _ H (L2.Same.rf _) (.bl _)⟩
theorem bC8 (j:E K false ta ρ d)(c:E K false tb ρ d')(s:sq d'=some ds)(h1:Fit d)(e:Fit d'):E K m (tOp (dC9 K false) ta tb) ρ (.bool (ds.any λz=>PyData.eqv z d)):=
 cD4 false false j c λS H x y Q _ Y X q=>⟨d,d',ds,Y,X,s,h1,e,q _ H (L2.Same.rf _) (.bl _)⟩
theorem W4 (j:E K false ta ρ d)(c:E K false tb ρ d')(s:sq d'=some ds)(h1:Fit d)(e:Fit d'):E K m (tOp (dC9 K true) ta tb) ρ (.bool (!ds.any λz=>PyData.eqv z d)):=
 cD4 false false j c λS H x y Q _ Y X q=>⟨d,d',ds,Y,X,s,h1,e,q _ H (L2.Same.rf _) (.bl _)⟩
theorem V3 {α:Type}[DecidableEq α]{f:α->PyData}(h:∀a b,PyData.eqv (f a) (f b)=decide (a=b)):∀l l':List α,PyData.eqvAll (l.map f) (l'.map f)=decide (l=l')
 | [],[]=>by simp[PyData.eqvAll]
 | [],_::_=>by simp[PyData.eqvAll]
 | _::_,[]=>by simp[PyData.eqvAll]
 | a::l,b::l'=>by
  simp only[Ac7,PyData.eqvAll,h,V3 h l l',Bv];by_cases e:a=b <;> simp[e]
theorem aX4 (a b:Int):PyData.eqv (.int a) (.int b)=decide (a=b):=by
 simp  [PyData.eqv];by_cases h:a=b <;> simp[h]
theorem aC4 (l l':AF):PyData.eqv (tI l) (tI l')=decide (l=l'):=by
 exact V3 aX4 l l'
theorem bN0 (r:Rep K H p (lI l)):∃a,p=.ref a/\SqL K H a (l.map V.int):=by
 cases r with
 | lst s r=>rw[<- r.ints];exact⟨_,rfl,s⟩
theorem dL2 {t:TA}(Y:A K false t ρ [lI l])(e:M∈l/\∀a∈l,M<=a):E K m (tCB (λxs H Q=>∃(p:Addr) (l:AF),xs=[.ref p]/\SqL K H p (l.map V.int)/\l≠[]/\∀M,M∈l->(∀a∈l,M<=a)->Q (.int M) H) t) ρ (.int M):=cM6 Y λH vs Q r q=>by
 cases r with
 | cons a b=>
  cases b
  obtain⟨p,rfl,s⟩:=bN0 a;refine⟨p,l,rfl,s,List.ne_nil_of_mem e.1,λj h1 c=>?_⟩
  have:=Int.le_antisymm (c M e.1) (e.2 j h1)
  rw[this];exact q _ λ_=>.int _
abbrev lB (l:List Bool):PyData:=.list (l.map .bool)
theorem Reps.bools:∀{l:List Bool} {vs:List V},Reps K H vs (l.map PyData.bool)->vs=l.map V.bl
 | [],_,r=>by cases r;rfl
 | i::l,_,r=>by
  cases r with
  | cons a b=>cases a;rw[Reps.bools b];rfl
theorem cJ5 {t:TA}(e:A K false t ρ [lB l]):E K m (tCB (λxs H Q=>∃(p:Addr) (l:List Bool),xs=[.ref p]/\SqL K H p (l.map V.bl)/\Q (.bl (l.all id)) H) t) ρ (.bool (l.all id)):=cM6 e λH vs Q r q=>by
 cases r with
 | cons a b=>
  cases b
  cases a with
  | lst s r=>rw[r.bools]at s;exact⟨_,l,rfl,s,q _ λ_=>.bl _⟩
theorem cT2 (Y:E K false ta ρ (lI l))(X:E K false tb ρ (.int k))(U:k∈l) :
  E K m (tBM K "list" (λx xs H Q=>∃(p:Addr) (l:AF) (k:Int),x=.ref p/\xs=[.int k]/\SqL K H p (l.map V.int)/\k∈l/\Q (.int (l.idxOf k)) H) ta (E8 tb R3)) ρ (.int (l.idxOf k)):=E.bor (E.imm (m:=false) λS B σ H o I Q q=>Y S B σ H o I _ λv H1 e r=>by
 obtain⟨p,rfl,s⟩:=bN0 r;refine⟨.inl ⟨rfl,_,s⟩,?_⟩;refine X S B σ H1 o (I.grow e) _ λu c j J=>?_
 cases J
 exact⟨p,l,k,rfl,rfl,O6 j s,U,q _ c (L2.Same.tr e j) (.int _)⟩)
theorem aD4 {S:Addr->Prop}(j:∀b,S b->∃u:HM,H1 b=some u.ho)(hp:H1 p=none)(r:Reps K H1 xs ds)(hi:K5 ds=true):Reps K (hid (λb=>S b\/b=p) (upd H1 p (.lst xs))) xs ds:=
 bB6 (λa m q=>w6 (λb z=>by
  rcases z with z | z
  .obtain⟨s,e⟩:=j b z;exact⟨s,by rw[C1 (λc=>by rw[c,hp]at e;cases e)];exact e⟩
  .exact⟨.l xs,by rw[z];exact C7⟩) (l4 (D9 hp) q)) ds hi r
theorem cF5 {t:TA}(j:A K false t ρ ds)(hi:K5 es=true)(c:∀(H:Hp) (vs:List V) (Q:VK),Reps K H vs ds->(∀p xs,H p=none->Reps K H xs es->Q (.ref p) (upd H p (.lst xs)))->r vs H Q):EF K (tCB r t) ρ es:=λS B σ H o I Q q=>
 j S B σ H o I _ λvs H1 e rs=>c H1 vs Q rs λp xs hp s=>q p xs _ (L2.Same.tr e (D9 hp)) (W6 e hp) C7 (aD4 (I.grow e).lists hp s hi)
theorem dE3 {t:TA}(c:A K false t ρ [d])(j:sq d=some ds)(hi:K5 ds=true):EF K (tCB (λxs H Q=>∃p ys,xs=[.ref p]/\(SqL K H p ys\/SqT K H p ys)/\∀l,H l=none->Q (.ref l) (upd H l (.lst ys))) t) ρ ds:=cF5 c hi λH vs Q r q=>by
 cases r with
 | cons a b=>
  cases b
  cases a with
  | lst s r=>cases j;exact⟨_,_,rfl,.inl s,λl e=>q l _ e r⟩
  | tup s r=>cases j;exact⟨_,_,rfl,.inr s,λl e=>q l _ e r⟩
  | _=>cases j
theorem V7 {t:TA}(j:A K false t ρ [.list ds])(hi:K5 ds=true):E K m (tCB (λxs H Q=>∃p ys,xs=[.ref p]/\((SqL K H p ys/\∀l,H l=none->Q (.ref l) (upd H l (.tup ys)))\/(SqT K H p ys/\Q (.ref p) H))) t) ρ (.tuple ds):=E.bor (E.imm (m:=false) (λS B σ H o I Q q=>j S B σ H o I _ λvs H1 c r=>by
 cases r with
 | cons a b=>
  cases b
  cases a with
  | lst s r=>exact⟨_,_,rfl,.inl ⟨s,λl e=>q _ _ (L2.Same.tr c (D9 e)) (.tup (SqT.of C7) (r.mono (D9 e)))⟩⟩) (by simp[imm,hi]))
theorem dX0 {t:TA}(U:A K false t ρ [.int i,.int j])(J : -(2^62)<=i/\i<2^62 /\ -(2^62)<=j/\j<2^62/\j-i<=1000000) :
  EF K (tCB (λxs H Q=>∃(r:Addr) (i j:Int),xs=[.ref r]/\H r=some (.rng i j)/\(-(2^62)<=i/\i<2^62 /\ -(2^62)<=j/\j<2^62/\j-i<=1000000)/\∀l,H l=none->Q (.ref l) (upd H l (.lst (aI6 i (j-i).toNat)))) (E8 (dM4 t) R3)) ρ (S6 i (j-i).toNat):=λS B σ H o I Q q=>
 U S B σ H o I _ λvs H1 s r=>by
  cases r with
  | cons a b=>
   cases a
   cases b with
   | cons a b=>
    cases a;cases b
    refine⟨i,j,rfl,λp hp=>⟨p,i,j,rfl,C7,J,λl c=>?_⟩⟩
    have e:=D9 (o:=.rng i j) hp
    have X:=D9 (o:=.lst (aI6 i (j-i).toNat)) c
    refine q l _ _ (L2.Same.tr s (L2.Same.tr e X)) (W6 (L2.Same.tr s e) c) C7 ?_;have m:aI6 i (j-i).toNat=((List.range (j-i).toNat).map λ(k:Nat)=>i+k).map V.int:=by simp[aI6]
    have Y:S6 i (j-i).toNat=((List.range (j-i).toNat).map λ(k:Nat)=>i+k).map PyData.int:=by simp[S6]
    rw[m,Y];exact V0 _
theorem dU8 (m:E K false ta ρ (.list ds))(hi:K5 ds=true):EF K (cH2 K ta) ρ ds.reverse:=λS B σ H o I Q q=>
 m S B σ H o I _ λv H1 c r=>by
  cases r with
  | lst s r=>
   refine⟨_,_,rfl,s,λl j=>q l _ _ (L2.Same.tr c (D9 j)) (W6 c j) C7 (aD4 (I.grow c).lists j r.reverse ?_)⟩
   refine bM1 λd e=>?_
   have:∀{l:AG},K5 l=true->∀d∈l,imm d=true:=λ{l}=>by
    induction l with
    | nil=>simp
    | cons a l Y=>intro h d e;simp[K5]at h;rcases Aa1.mp e with rfl | z;exact h.1;exact Y h.2 d z
   exact this hi d (Ds.mp e)
end
def OT.kids:OT->List OT
 | .leaf _ | .dic _=>[]
 | .tup ts=>ts
 | .lst ts=>ts
def OT.at:AD->OT->Option OT
 | [],t=>some t
 | k::π,t=>(t.kids[k]?).bind (OT.at π)
def OT.put (t:OT)(π:AD)(u:OT):OT:=match π with
 | []=>u
 | k::π=>match t with
  | .lst ts=>.lst (ts.modify k λt=>OT.put t π u)
  | .tup ts=>.tup (ts.modify k λt=>OT.put t π u)
  | .leaf d=>.leaf d
  | .dic d=>.dic d
theorem OT.put_nil {t u:OT}:t.put [] u=u:=by rw[OT.put]
theorem OT.put_lst:(OT.lst ts).put (k::π) u=.lst (ts.modify k λt=>OT.put t π u):=by rw[OT.put]
theorem OT.put_tup:(OT.tup ts).put (k::π) u=.tup (ts.modify k λt=>OT.put t π u):=by rw[OT.put]
section
theorem S2 {α:Type}{f:α->α}:∀{l:List α} {k:Nat} {a:α},l[k]? = some a->l.modify k f=l.set k (f a)
 | [],k,a,h=>by simp at h
 | b::l,0,a,h=>by simp at h;subst h;rfl
 | b::l,k+1,a,h=>by
  have:=S2 (f:=f) (by simpa using h)
  simpa using this
theorem cA2:∀{ts:List OT} {xs:List V} {L:AM} {k:Nat} {t:OT},Dps K Z H xs ts L->ts[k]? = some t->∃v L1 L2 L3,xs[k]? = some v/\Dp K Z H v t L2/\L=L1++L2++L3 /\
  ∀(Z' H':Hp) (t':OT) (L2':AM),Same Z Z'->(∀a xs,Rd H a (.tup xs)->Rd H' a (.tup xs))->(∀b,b∈L1\/b∈L3->H' b=H b)->Dp K Z' H' v t' L2'->Dps K Z' H' xs (ts.set k t') (L1++L2'++L3)
 | [],_,_,_,_,r,h=>by simp at h
 | t::ts,_,_,0,_,r,h=>by
  simp at h;subst h
  cases r with
  | @cons v _ vs _ La Lb a b=>
   refine⟨v,[],La,Lb,rfl,a,rfl,λZ' H' t' L2' hz ht hl r=>?_⟩
   simpa using Dps.cons r (o4 hz ht ts (λb hb=>hl b (.inr hb)) b)
 | t::ts,_,_,k+1,t1,r,h=>by
  cases r with
  | @cons v _ vs _ La Lb a b=>
   obtain⟨w,L1,L2,L3,h1,h2,h3,h4⟩:=cA2 b (by simpa using h)
   refine⟨w,La++L1,L2,L3,by simpa using h1,h2,by rw[h3];simp,λZ' H' t' L2' hz ht hl r=>?_⟩
   have:=Dps.cons (aG9 hz ht t (λb hb=>hl b (.inl (by simp[hb]))) a) (h4 Z' H' t' L2' hz ht (λb hb=>hl b (by rcases hb with hb | hb <;> simp[hb])) r)
   simpa using this
theorem dC5 {k:Nat}(r:Dp K Z H v t L)(h:t.kids[k]? = some t1):(∃a xs ts M,v=.ref a/\t=.tup ts/\SqT K H a xs/\Dps K Z H xs ts L/\ts[k]? = some t1/\M=L)\/∃a xs ts M,v=.ref a/\t=.lst ts/\H a=some (.lst xs)/\Dps K Z H xs ts M/\ts[k]? = some t1/\L=a::M:=by
 cases r with
 | leaf r=>simp[OT.kids]at h
 | dic _ _ _ _=>simp[OT.kids]at h
 | tup s r=>exact .inl ⟨_,_,_,_,rfl,rfl,s,r,h,rfl⟩
 | lst s r=>exact .inr ⟨_,_,_,_,rfl,rfl,s,r,h,rfl⟩
def Foc (K:Frag)(Z H:Hp)(v0:V)(t0:OT)(L0:AM)(π:AD)(v:V)(t:OT):Prop:=
 ∃L A C,Dp K Z H v t L/\L0=A++L++C/\∀(Z' H':Hp) (t':OT) (L':AM),Same Z Z'->(∀a xs,Rd H a (.tup xs)->Rd H' a (.tup xs))->(∀b,b∈A\/b∈C->H' b=H b)->Dp K Z' H' v t' L'->Dp K Z' H' v0 (t0.put π t') (A++L'++C)
theorem Foc.root (r:Dp K Z H v0 t0 L0):Foc K Z H v0 t0 L0 [] v0 t0:=
 ⟨L0,[],[],r,SS,λc j s L' _ _ _ e=>by rw[OT.put_nil];simpa using e⟩
theorem Foc.mono (f:Foc K Z H v0 t0 L0 π v t)(X:Same Z Z')(Y:∀a xs,Rd H a (.tup xs)->Rd H' a (.tup xs))(m:∀b∈L0,H' b=H b):Foc K Z' H' v0 t0 L0 π v t:=by
 obtain⟨L,A,C,h1,e,M⟩:=f;refine⟨L,A,C,aG9 X Y t (λb hb=>m b (by rw[e];simp[hb])) h1,e,λJ U Q L' s c j R=>M J U Q L' (L2.Same.tr X s) (λa xs z=>c a xs (Y a xs z)) (λb hb=>?_) R⟩
 rw[j b hb];exact m b (by rw[e];rcases hb with hb | hb <;> simp[hb])
theorem aP0 {u t1:OT}:∀{π:AD} {t0 t:OT},t0.at π=some t->t0.put π (t.put [k] u)=t0.put (π++[k]) u
 | [],t0,t,h=>by cases h;rfl
 | j::π,t0,t,h=>by
  unfold OT.at at h;cases e:t0.kids[j]? with
  | none=>rw[e]at h;cases h
  | some t1=>
   rw[e]at h;have h:=h;cases t0 with
   | leaf d=>simp[OT.kids]at e
   | dic d=>simp[OT.kids]at e
   | lst ts=>
    have e:ts[j]? = some t1:=e
    rw[Ab6,OT.put_lst,OT.put_lst,S2 e,S2 e,aP0 (t1:=t1) h]
   | tup ts=>
    have e:ts[j]? = some t1:=e
    rw[Ab6,OT.put_tup,OT.put_tup,S2 e,S2 e,aP0 (t1:=t1) h]
theorem aO2:∀{π:AD} {t0 t:OT},t0.at π=some t->t0.at (π++[k])=t.kids[k]?
 | [],t0,t,h=>by
  cases h
  show(t0.kids[k]?).bind (OT.at [])=_
  cases t0.kids[k]? <;> rfl
 | j::π,t0,t,h=>by
  unfold OT.at at h;show(t0.kids[j]?).bind (OT.at (π++[k]))=_;cases hk:t0.kids[j]? with
  | none=>rw[hk]at h;cases h
  | some t1=>
   rw[hk]at h;exact aO2 h
theorem Foc.down (f:Foc K Z H v0 t0 L0 π v t)(ha:t0.at π=some t)(h:t.kids[k]? = some t1) :
  ∃a xs u,v=.ref a/\(SqL K H a xs\/SqT K H a xs)/\xs[k]? = some u/\Foc K Z H v0 t0 L0 (π++[k]) u t1:=by
 obtain⟨L,A,C,h1,h2,h3⟩:=f;rcases dC5 h1 h with⟨a,xs,ts0,M,rfl,rfl,s,P,e,rfl⟩ | ⟨a,xs,ts0,M,rfl,rfl,s,P,e,rfl⟩
 .obtain⟨u,U,L2,J,R,Q,D,F⟩:=cA2 P e;refine⟨a,xs,u,rfl,.inr s,R,L2,A++U,J++C,Q,by rw[h2,D];simp,λY m t' L' X c j B=>?_⟩
  have:=h3 Y m _ _ X c (λb hb=>j b (by rcases hb with hb | hb <;> simp[hb])) (Dp.tup (s.imp (c _ _) id) (F Y m t' L' X c (λb hb=>j b (by rcases hb with hb | hb <;> simp[hb])) B))
  rw[<- aP0 (t1:=t1) ha,OT.put_tup,S2 e,OT.put_nil];simpa using this
 .obtain⟨u,U,L2,J,R,Q,D,F⟩:=cA2 P e;refine⟨a,xs,u,rfl,.inl (SqL.of s),R,L2,A++a::U,J++C,Q,by rw[h2,D];simp,λY m t' L' X c j B=>?_⟩
  have:=h3 Y m _ _ X c (λb hb=>j b (by rcases hb with hb | hb <;> simp[hb])) (Dp.lst (by rw[j a SS];exact s) (F Y m t' L' X c (λb hb=>j b (by rcases hb with hb | hb <;> simp[hb])) B))
  rw[<- aP0 (t1:=t1) ha,OT.put_lst,S2 e,OT.put_nil];simpa using this
end
section
def EFT (K:Frag)(t:TE)(ρ:List Sl)(u:OT):Prop:=
 ∀(S:Addr->Prop) (B:Hp) (σ:St) (H:Hp) (o:Nat->AM),Env K S B H σ ρ o->∀Q:VK,
  (∀v L H',Same H H'->(∀b∈L,H b=none)->L.Nodup->Dp K (hid (λb=>E3 ρ o S b\/b∈L) H') H' v u L->Q v H')->t σ H Q
def AFT (K:Frag)(t:TA)(ρ:List Sl)(us:List OT):Prop:=
 ∀(S:Addr->Prop) (B:Hp) (σ:St) (H:Hp) (o:Nat->AM),Env K S B H σ ρ o->∀Q:List V->Hp->Prop,
  (∀vs L H',Same H H'->(∀b∈L,H b=none)->L.Nodup->Dps K (hid (λb=>E3 ρ o S b\/b∈L) H') H' vs us L->Q vs H')->t σ H Q
theorem bL2:Same (hid S H) (hid (λb=>S b\/b∈([]:AM)) H):=E5 (L2.Same.rf _) λb z _=>z.elim id λz=>nomatch z
theorem bF8 (h:E K true t ρ d):EFT K t ρ (.leaf d):=λS B σ H o I Q q=>h S B σ H o I _ λv e s r=>
 q v [] e s (λ_ z=>nomatch z) .nil (.leaf (r.mono bL2))
theorem aW8:∀{us:List OT} {vs:List V} {L:AM},Dps K Z H vs us L->vs.length=us.length
 | [],_,_,r=>by cases r;rfl
 | u::us,_,_,r=>by cases r with | cons a b=>simp[aW8 b]
theorem K3:AFT K R3 ρ []:=λS B σ H o I Q q=>q [] [] H (L2.Same.rf _) (λ_ z=>nomatch z) .nil .nil
theorem Dps.mono (r:Dps K Z H vs us L)(c:Same Z Z')(h:Same H H'):Dps K Z' H' vs us L:=
 o4 c (λ_ _=>l4 h) us (λb j=>by obtain⟨xs,e⟩:=m8 us r b j;rw[e];exact h _ _ e) r
theorem Env.hide {L:AM}(I:Env K S B H σ ρ o)(s:Same H H1)(n:∀b∈L,H b=none)(l:∀b∈L,∃u:HM,H1 b=some u.ho) :
  Env K (λb=>S b\/b∈L) (hid (cQ0 ρ o) H1) H1 σ ρ o:=by
 obtain⟨J,M⟩:=(I.grow s).rebase;have g:Same (hid (E3 ρ o S) H) (hid (E3 ρ o λb=>S b\/b∈L) H1):=E5 s λb z k=>by
  rcases z with (z | z) | z
  .exact .inl z
  .exact absurd (n b z) k
  .exact .inr z
 refine⟨I.len,O1,λb z=>?_,J.new,I.inj,λi ds h=>?_,λi d h=>?_,λi d h=>?_,λi t h=>?_⟩
 .rcases z with z | z
  .exact J.sl b z
  .obtain⟨xs,e⟩:=l b z;refine⟨xs,hid_some.mpr ⟨λpz=>?_,e⟩⟩
   obtain⟨i,x,h,X,Y⟩:=pz;obtain⟨R,e'⟩:=I.lists b (.inr ⟨i,x,h,X,Y⟩);rw[n b z]at e';cases e'
 .obtain⟨p,h1,j,xs,c,m⟩:=I.own i ds h;exact⟨p,h1,j,xs,s _ _ c,m.mono g⟩
 .obtain⟨v,h1,j⟩:=I.val i d h;exact⟨v,h1,j.mono g⟩
 .obtain⟨v,h1,j⟩:=I.bor i d h;exact⟨v,h1,j.mono s⟩
 .obtain⟨U,v,h1,j⟩:=I.tr i t h;exact⟨U,v,h1,j.mono g s⟩
theorem dE0 {L:AM}:E3 ρ o (λb=>S b\/b∈L) b↔E3 ρ o S b\/b∈L:=by
 constructor
 .rintro ((z | z) | z)
  .exact .inl (.inl z)
  .exact .inr z
  .exact .inl (.inr z)
 .rintro ((z | z) | z)
  .exact .inl (.inl z)
  .exact .inr z
  .exact .inl (.inr z)
theorem G8 (j:EFT K ta ρ u)(F:AFT K tr ρ us):AFT K (E8 ta tr) ρ (u::us):=λS B σ H o I Q q=>
 j S B σ H o I _ λx J H1 m X R s=>F _ _ σ H1 o (I.hide m X (aB8 u s)) _ λxs M U Y c D r2=>by
  have P:=aB8 u s
  refine q (x::xs) (J++M) U (L2.Same.tr m Y) (λb hb=>?_) ?_ (.cons (s.mono ?_ Y) (r2.mono ?_ (L2.Same.rf _)))
  .rcases Aa0.mp hb with hb | hb
   .exact X b hb
   .exact W6 m (c b hb)
  .refine Aa4.mpr ⟨R,D,λa j b hb e=>?_⟩
   subst e;obtain⟨xs,e⟩:=P a j;rw[c a hb]at e;cases e
  .refine E5 Y λb z k=>?_
   rcases z with z | z
   .exact .inl z
   .rcases Aa0.mp z with z | z
    .exact .inr z
    .exact absurd (c b z) k
  .refine E5 (L2.Same.rf _) λb z _=>?_
   rw[dE0];rcases z with z | z
   .exact .inl (.inl z)
   .rcases Aa0.mp z with z | z
    .exact .inl (.inr z)
    .exact .inr z
theorem aW9 {t:TA}(h:AFT K t ρ us)(e:us.length<=sizeLine:=by first | decide | (unfold sizeLine;simp)):EFT K (bQ4 t) ρ (.tup us):=λS B σ H o I Q q=>h S B σ H o I _ λxs L H1 j n d r=>
 ⟨by rw[aW8 r];exact e,λp hp=>by
  have g:=D9 (o:=.tup xs) hp
  exact q _ L _ (L2.Same.tr j g) n d (.tup (SqT.of C7) (r.mono (K7 g) g))⟩
theorem N4 {t:TA}(h:AFT K t ρ us)(c:us.length<=sizeLine:=by first | decide | (unfold sizeLine;simp)):EFT K (dR1 t) ρ (.lst us):=λS B σ H o I Q q=>h S B σ H o I _ λxs L H1 j n d r=>
 ⟨by rw[aW8 r];exact c,λp hp=>by
  have g:=D9 (o:=.lst xs) hp
  refine q _ (p::L) _ (L2.Same.tr j g) (λb hb=>?_) (Aa5.mpr ⟨λz=>?_,d⟩) (.lst C7 (r.mono ?_ g))
  .rcases Aa1.mp hb with rfl | hb
   .exact W6 j hp
   .exact n b hb
  .obtain⟨s,e⟩:=m8 us r p z;rw[hp]at e;cases e
  .refine E5 g λb z k=>?_
   rcases z with z | z
   .exact .inl z
   .rcases Aa1.mp z with rfl | z
    .exact absurd hp k
    .exact .inr z⟩
theorem bC0 (h:EFT K t ρ u)(j:R.nx (ρ.set i (.tr u)))(hi:i<ρ.length:=by first | decide | (simp;done) | (simp[LV.sl0];done)):W K (aT8 t (F4 i)) ρ R:=λS B D σ H o I s=>
 h S B σ H o I _ λv L e c n d r=>s.nx _ _ e _ (I.put i hi (λ_=>False) (λ_ z=>z.elim) (λb y q _=>c b y q) (λb z=>.inr (n b z)) (.inr ⟨u,rfl,d,r⟩) (.inl λ_ z=>z)) j
def AtP (K:Frag)(t:TE)(ρ:List Sl)(i:Nat)(π:AD):Prop:=
 ∀(S:Addr->Prop) (B:Hp) (σ:St) (H:Hp) (o:Nat->AM),Env K S B H σ ρ o->∀(u0 u:OT),ρ[i]? = some (.tr u0)->u0.at π=some u->∀Q:VK,
  (∀v0 v H',Same H H'->σ[i]? = some (some v0)->Foc K (hid (E3 ρ o S) H') H' v0 u0 (o i) π v u->Q v H')->t σ H Q
theorem aJ4:AtP K (F6 i) ρ i []:=λS B σ H o I j u h e Q q=>by
 cases e
 obtain⟨_,v,a,b⟩:=I.tr i j h;exact⟨v,a,q v v H (L2.Same.rf _) a (Foc.root b)⟩
theorem Foc.grow (f:Foc K Z H v0 u0 L0 π v u)(l:∀b∈L0,∃u:HM,H b=some u.ho)(c:Same Z Z')(h:Same H H'):Foc K Z' H' v0 u0 L0 π v u:=
 f.mono c (λ_ _=>l4 h) λb j=>by obtain⟨xs,e⟩:=l b j;rw[e];exact h _ _ e
theorem Env.trL (I:Env K S B H σ ρ o)(h:ρ[i]? = some (.tr u0)):∀b∈o i,∃u:HM,H b=some u.ho:=λb e=>I.lists b (.inr ⟨i,_,h,rfl,e⟩)
theorem aP1 (n:Nat)(hp:AtP K ta ρ i π)(X:E K false tb ρ (.int k))(J:k=n)(U:∀u0,ρ[i]? = some (.tr u0)->∃u,u0.at π=some u):AtP K (tOp (rIx K) ta tb) ρ i (π++[n]):=λS B σ H o I u0 R h Y Q q=>by
 obtain⟨u,j⟩:=U u0 h;rw[aO2 j]at Y;refine hp S B σ H o I u0 u h j _ λv0 v H1 c a f=>?_
 refine X S B σ H1 o (I.grow c) _ λw m s r=>?_
 cases r
 have f2:=f.grow ((I.grow c).trL h) (K7 s) s
 obtain⟨p,xs,x,rfl,hs,M,f3⟩:=f2.down j Y;have e:=M6 n J M;rcases hs with hs | hs
 .exact .inl ⟨p,xs,k,x,rfl,rfl,hs,e,q v0 x m (L2.Same.tr c s) a f3⟩
 .exact .inr (.inl ⟨p,xs,k,x,rfl,rfl,hs,e,q v0 x m (L2.Same.tr c s) a f3⟩)
end
section
theorem aY5 (I:Env K S B H σ ρ o)(hi:ρ[i]? = some (.tr u0))(hv:σ[i]? = some (some v0))
  (f:Foc K (hid (E3 ρ o S) H) H v0 u0 (o i) π (.ref p) (.lst us)) (s:Same H H2) (hN:∀b∈Lx,H b=none) (dx:Lx.Nodup) (rx:Dp K (hid (λb=>E3 ρ o S b\/b∈Lx) H2) H2 x u Lx)
  (nb:∀(j:Nat) (d:PyData),ρ[j]?≠some (Sl.bor d)) (U:List V->List V) (X:List OT)
  (hc:∀(xs:List V) (M:AM) (Z' H':Hp),Dps K Z' H' xs us M->Dp K Z' H' x u Lx->∃M',Dps K Z' H' (U xs) X M'/\((M++Lx).Nodup->M'.Nodup)/\∀b∈M',b∈M++Lx) :
  ∃xs,H2 p=some (.lst xs)/\xs.length=us.length/\∃o',Env K S B (upd H2 p (.lst (U xs))) σ (ρ.set i (.tr (u0.put π (.lst X)))) o':=by
 obtain⟨nd,v0',hv',r0⟩:=I.tr i u0 hi;obtain⟨L,A,C,h1,h2,h3⟩:=f;cases h1 with
 | @lst _ xs _ M hp r=>
 have D:=(Ab0.mp hi).1
 have oi:∀b∈o i,cL4 ρ o i b:=λb hb=>⟨_,hi,rfl,hb⟩
 have os:∀b∈o i,E3 ρ o S b:=λb hb=>.inr ⟨i,_,hi,rfl,hb⟩
 have Y:p∈o i:=by rw[h2];simp
 have sub:∀b,(b∈A\/b∈M\/b∈C)->b∈o i/\b≠p:=λb hb=>by
  rw[h2]at nd ⊢;refine⟨by rcases hb with hb | hb | hb <;> simp[hb],λe=>?_⟩
  grind
 have lst:=I.trL hi
 have up:∀b,b∈o i->b≠p->upd H2 p (.lst (U xs)) b=H b:=λb hb F=>by
  rw[C1 F];obtain⟨c,e⟩:=lst b hb;rw[e];exact s _ _ e
 have P:∀a c,Rd H2 a (.tup c)->Rd (upd H2 p (.lst (U xs))) a (.tup c):=λa c q=>by
  have n:a≠p:=λe=>by
   subst e
   have:=s _ _ hp
   rcases q with q | ⟨o,q⟩ <;> rw[this]at q <;> cases q
  rcases q with q | ⟨o,q⟩
  .exact .inl (by rw[C1 n];exact q)
  .exact .inr ⟨o,by rw[C1 n];exact q⟩
 have z1:Same (hid (E3 ρ o S) H) (hid (λb=>E3 ρ o S b\/b∈Lx) (upd H2 p (.lst (U xs)))):=λb y q=>by
  obtain⟨J,R⟩:=hid_some.mp q;refine hid_some.mpr ⟨λz=>z.elim J λz=>(by rw[hN b z]at R;cases R),?_⟩
  rw[C1 (λe=>J (os b (by rw[e];exact Y)))]
  exact s _ _ R
 have z2:Same (hid (λb=>E3 ρ o S b\/b∈Lx) H2) (hid (λb=>E3 ρ o S b\/b∈Lx) (upd H2 p (.lst (U xs)))):=λb y q=>by
  obtain⟨J,R⟩:=hid_some.mp q;refine hid_some.mpr ⟨J,?_⟩;rw[C1 (λe=>J (.inl (os b (by rw[e];exact Y))))]
  exact R
 have pN:p∉Lx:=λz=>by rw[hN p z]at hp;cases hp
 obtain⟨M',c1,c2,c3⟩:=hc xs M _ _ (o4 z1 (λa c q=>P a c (l4 s q)) us (λb hb=>up b (sub b (.inr (.inl hb))).1 (sub b (.inr (.inl hb))).2) r)
  (aG9 z2 P u (λb hb=>by rw[C1 (λe=>pN (by rw[<- e];exact hb))]) rx)
 have fin:=h3 _ _ (.lst X) (p::M') z1 (λa c q=>P a c (l4 s q)) (λb hb=>up b (sub b (by rcases hb with hb | hb <;> simp[hb])).1 (sub b (by rcases hb with hb | hb <;> simp[hb])).2) (.lst C7 c1)
 have far:∀b∈Lx,b∉o i:=λb hb Q=>by
  obtain⟨c,e⟩:=lst b Q;rw[hN b hb]at e;cases e
 have mem:∀b∈A++p::M'++C,b∈o i\/b∈Lx:=λb hb=>by
  have:=c3 b
  grind
 have m:(A++p::M'++C).Nodup:=by
  grind
 refine⟨xs,s _ _ hp,aW8 r,bL8 o i (A++p::M'++C),?_⟩
 have:=I.put i D (λb=>b=p) (λb z=>by rw[z];exact oi p Y) (λb y q z=>by rw[C1 z];exact s _ _ q)
  (λb hb=>(mem b hb).imp (oi b) (hN b))
  (.inr ⟨_,rfl,m,fin.mono (E5 (L2.Same.rf _) λb z _=>z.elim .inl λz=>(mem b z).elim (λz=>.inl (os b z)) .inr) (L2.Same.rf _)⟩) (.inr nb)
 rw[bD6 hv]at this;exact this
theorem bA3 {Z H:Hp}{x:V}{Lx:AM}:∀{us:List OT} {xs:List V} {M:AM},Dps K Z H xs us M->Dp K Z H x u Lx->Dps K Z H (xs++[x]) (us++[u]) (M++Lx)
 | [],_,_,r,h=>by cases r;simpa using Dps.cons h .nil
 | a::us,_,_,r,h=>by
  cases r with
  | @cons v _ vs _ La Lb r1 r2=>
   have:=Dps.cons r1 (bA3 r2 h)
   simpa using this
theorem o5 (hp:AtP K ta ρ i π)(hi:ρ[i]? = some (.tr u0))(F:u0.at π=some (.lst us))(X:EFT K tb ρ u)(U:us.length<sizeLine)(Q:R.nx (ρ.set i (.tr (u0.put π (.lst (us++[u]))))))(nb:O7 ρ=true:=by rfl) :
  W K (bK0 (tBM K "list" aN0 ta (E8 tb R3))) ρ R:=λS B D σ H o I s=>by
 refine hp S B σ H o I u0 _ hi F _ λv0 v H1 e a f=>?_
 have ⟨L,A,C,f1,f2,f3⟩:=f
 cases f1 with
 | @lst p xs _ M hpp r=>
 refine⟨.inl ⟨rfl,_,SqL.of hpp⟩,?_⟩;refine X S B σ H1 o (I.grow e) _ λx j H2 s2 n d rx=>?_
 obtain⟨ys,c,m,P,J⟩:=aY5 (I.grow e) hi a f s2 n d rx (K6 nb) (λxs=>xs++[x]) (us++[u]) λxs M Z' H' r1 r2=>⟨M++j,bA3 r1 r2,λh=>h,λb Y=>Y⟩
 exact⟨p,ys,x,rfl,rfl,c,by rw[m];exact U,s.nx _ σ _ P J Q⟩
theorem cI2 {Z H:Hp}{x:V}:∀{us:List OT} {xs:List V} {M:AM} {n:Nat},Dps K Z H xs us M->Dp K Z H x u []->∃M',Dps K Z H (xs.set n x) (us.set n u) M'/\(M.Nodup->M'.Nodup)/\∀b∈M',b∈M
 | [],_,_,n,r,h=>by cases r;exact⟨[],.nil,id,λ_ z=>z⟩
 | a::us,_,_,0,r,h=>by
  cases r with
  | @cons v _ vs _ La Lb r1 r2=>exact⟨Lb,by simpa using Dps.cons h r2,λz=>(Aa4.mp z).2.1,λb hb=>by simp[hb]⟩
 | a::us,_,_,n+1,r,h=>by
  cases r with
  | @cons v _ vs _ La Lb r1 r2=>
   obtain⟨M',h1,j,e⟩:=cI2 r2 h;refine⟨La++M',Dps.cons r1 h1,λz=>?_,λb hb=>?_⟩
   .obtain⟨s,m,Y⟩:=Aa4.mp z;exact Aa4.mpr ⟨s,j m,λa c b hb=>Y a c b (e b hb)⟩
   .rcases Aa0.mp hb with hb | hb
    .simp[hb]
    .simp[e b hb]
theorem dQ9 (n:Nat)(he:E K true t ρ d)(hp:AtP K ta ρ i π)(hk:E K false tb ρ (.int k))(e:k=n)(hn':n<us.length)(hi:ρ[i]? = some (.tr u0))(hu:u0.at π=some (.lst us))(hn:R.nx (ρ.set i (.tr (u0.put π (.lst (us.set n (.leaf d)))))))(nb:O7 ρ=true:=by rfl) :
  W K (aT8 t (dQ4 ta tb cR6)) ρ R:=λS B D σ H o I s=>by
 refine he S B σ H o I _ λx X c rx=>?_
 refine hp S B σ X o (I.grow c) u0 _ hi hu _ λv0 v H1 m a f=>?_
 have ⟨L,A,C,f1,f2,f3⟩:=f
 cases f1 with
 | @lst p xs _ M hpp r=>
 refine hk S B σ H1 o ((I.grow c).grow m) _ λw H2 Y j=>?_
 cases j
 obtain⟨ys,Q,e2,o',J⟩:=aY5 (Lx:=[]) ((I.grow c).grow m) hi a f Y (λb z=>nomatch z) .nil (.leaf (rx.mono (L2.Same.tr (K7 (L2.Same.tr m Y)) bL2))) (K6 nb) (λxs=>xs.set n x) (us.set n (.leaf d)) λxs M Z' H' r1 r2=>by
  obtain⟨U,F,P,g3⟩:=cI2 r1 r2;exact⟨U,F,λh=>P (by simpa using h),λb hb=>by simpa using g3 b hb⟩
 exact⟨p,ys,k,n,rfl,rfl,Q,by unfold ixN;rw[Ac XX,Ac XX];simp[e],s.nx _ σ _ o' J hn⟩
def EX (K:Frag)(t:TE)(ρ:List Sl)(j:Nat)(d:PyData)(ρ':List Sl):Prop:=
 ∀(S:Addr->Prop) (B:Hp) (σ:St) (H:Hp) (o:Nat->AM),Env K S B H σ ρ o->∀Q:VK,(∀v H' o',Env K S B H' σ ρ' o'->(∀k,k≠j->o' k=o k)->(∀b y,H b=some y->b∉o j->H' b=some y)->(∀b∈o j,∃u:HM,H b=some u.ho) ->
  Same (hid (E3 ρ o S) H) (hid (E3 ρ' o' S) H')->Rep K (hid (E3 ρ' o' S) H') v d->Q v H')->t σ H Q
theorem bN7 (s:ρ[j]? = some (.own (ds++[d])))(nb:O7 ρ=true:=by rfl):EX K (dV5 K "list" dS3 (F6 j)) ρ j d (ρ.set j (.own ds)):=λS B σ H o I Q q=>by
 obtain⟨p,hp,a,xs,b,c⟩:=I.own j _ s;have R:=c.length;obtain⟨y,h1,U⟩:=c.get' (i:=ds.length) (d:=d) SS
 refine⟨_,a,.inl ⟨rfl,xs,SqL.of b⟩,_,xs,y,rfl,rfl,b,by rw[R];simpa using h1,?_⟩
 have Y:=c.dropLast
 rw[List.dropLast_concat]at Y;have X:=I.upd s hp Y (K6 nb);have g:=bM7 (S:=S) (H:=H) (xs:=xs.dropLast) (es:=ds) s hp;exact q y _ _ X (λk M=>S9 (Ne.symm M)) (λm x e n=>by rw[C1 (λz=>n (by rw[hp,z];simp))];exact e) (λm J=>I.lists m (.inr ⟨j,_,s,rfl,J⟩)) g (U.mono g)
theorem dA3 (n:Nat)(X:ρ[j]? = some (.own ds))(U:E K false tb ρ (.int k))(J:k=n)(hn:ds[n]? = some d)(D:n<2^63)(nb:O7 ρ=true:=by rfl):EX K (tBM K "list" cS5 (F6 j) (E8 tb R3)) ρ j d (ρ.set j (.own (ds.eraseIdx n))):=λS B σ F o Y Q q=>by
 obtain⟨p,hp,a,xs,R,c0⟩:=Y.own j _ X;refine⟨_,a,.inl ⟨rfl,xs,SqL.of R⟩,?_⟩;refine U S B σ F o Y _ λw H s r=>?_
 cases r
 have I:=Y.grow s
 have b:=s _ _ R
 have c:=c0.mono (K7 s)
 obtain⟨y,h1,h2⟩:=c.get' hn;have hl:=(Ab0.mp h1).1;refine⟨_,xs,k,n,y,rfl,rfl,b,XX,LL,(bM9 (by unfold ixN;rw[Ac XX,Ac XX];simp[J])).1,h1,?_⟩
 have P:=I.upd X hp (c.eraseIdx n) (K6 nb)
 have g:=bM7 (S:=S) (H:=H) (xs:=xs.eraseIdx n) (es:=ds.eraseIdx n) X hp
 exact q y _ _ P (λk U=>S9 (Ne.symm U)) (λM x e m=>by rw[C1 (λz=>m (by rw[hp,z];simp))];exact s _ _ e) (λM D=>Y.lists M (.inr ⟨j,_,X,rfl,D⟩)) (L2.Same.tr (K7 s) g) (h2.mono g)
theorem aS0 (P:EX K t ρ j d ρ')(hi:ρ[i]? = some (.own ds))(e:ρ'[i]? = some (.own ds))(Q:ds.length<sizeLine)(F:R.nx (ρ'.set i (.own (ds++[d]))))(nb:O7 ρ'=true:=by rfl) :
  W K (bK0 (tBM K "list" aN0 (F6 i) (E8 t R3))) ρ R:=λS B D σ H o I s=>by
 obtain⟨p,hp,a,xs,b,c⟩:=I.own i ds hi;refine⟨_,a,.inl ⟨rfl,xs,SqL.of b⟩,?_⟩;refine P S B σ H o I _ λv H' o' X _ _ _ _ r=>?_
 obtain⟨p',m,U,Y,M,J⟩:=X.own i ds e;rw[a]at U;cases U;exact⟨_,Y,v,rfl,rfl,M,by rw[J.length];exact Q,(s.nx _ σ _ _ (X.upd e m (J.append (.cons r .nil)) (K6 nb)) F)⟩
theorem cB7 (hp:AtP K ta ρ i π)(hx:EX K t ρ j d ρ')(c:i≠j)(hj:∃x,ρ[j]? = some x/\x.os=true)(hi:ρ[i]? = some (.tr u0))(Y:ρ'[i]? = some (.tr u0))(hu:u0.at π=some (.lst us))(hl:us.length<sizeLine)(hn:R.nx (ρ'.set i (.tr (u0.put π (.lst (us++[.leaf d]))))))(nb:O7 ρ'=true:=by rfl) :
  W K (bK0 (tBM K "list" aN0 ta (E8 t R3))) ρ R:=λS B D σ H o I s=>by
 refine hp S B σ H o I u0 _ hi hu _ λv0 v H1 s1 a f=>?_
 have ⟨L,A,C,f1,f2,f3⟩:=f
 cases f1 with
 | @lst p xs _ M hpp r=>
 refine⟨.inl ⟨rfl,_,SqL.of hpp⟩,?_⟩;refine hx S B σ H1 o (I.grow s1) _ λx H2 o' I' ho X U hz rx=>?_
 obtain⟨y,Q,F⟩:=hj;have P:=f.mono hz (λa ys q=>by
  have n:a∉o j:=λz=>by
   obtain⟨zs,e⟩:=U a z;rcases q with q | ⟨o,q⟩ <;> rw[e]at q <;> replace q:=Ab4 q
   .exact HM.nt q
   .exact HM.nf q
  rcases q with q | ⟨o,q⟩
  .exact .inl (X _ _ q n)
  .exact .inr ⟨o,X _ _ q n⟩) λb m=>by
   obtain⟨zs,e⟩:=(I.grow s1).trL hi b m;rw[e];exact X _ _ e λz=>c (I.inj i j _ y hi Q rfl F b m z)
 rw[<- ho i c]at P;obtain⟨ys,e1,e2,o2,J⟩:=aY5 (Lx:=[]) I' Y a P (L2.Same.rf _) (λb z=>nomatch z) .nil (.leaf (rx.mono bL2)) (K6 nb) (λxs=>xs++[x]) (us++[.leaf d]) λxs M Z' H' r1 r2=>⟨M++[],bA3 r1 r2,λh=>h,λb m=>m⟩
 exact⟨p,ys,x,rfl,rfl,e1,by rw[e2];exact hl,s.nx _ σ _ o2 J hn⟩
theorem Env.frz {S:Addr->Prop}{B H:Hp}{σ:St}{o:Nat->AM}{i:Nat}{x:Sl}(I:Env K S B H σ ρ o)(hi:ρ[i]? = some x)(F:x=.own ds/\d=.list ds\/∃u,x=.tr u/\d=u.data):Env K S B H σ (ρ.set i (.val d)) o:=by
 have m:x.os=true:=by rcases F with⟨rfl,_⟩ | ⟨u,rfl,_⟩ <;> rfl
 have R:=(Ab0.mp hi).1
 have at_:∀{j:Nat} {y:Sl},y≠.val d->(ρ.set i (.val d))[j]? = some y->i≠j/\ρ[j]? = some y:=λ{j y} s h=>by
  rw[List.getElem?_set]at h;by_cases c:i=j
  .rw[Ac c,Ac OO]at h
   exact absurd (Ab4 h).symm s
  .rw[Ab c]at h;exact⟨c,h⟩
 have Y:∀{y:Sl},y.os=true->y≠.val d:=λ{y} h e=>by rw[e]at h;cases h
 have g:Same (hid (E3 ρ o S) H) (hid (E3 (ρ.set i (.val d)) o S) H):=E5 (L2.Same.rf _) λb z _=>aX3 rfl z
 have X:∀b∈o i,hid (E3 (ρ.set i (.val d)) o S) H b=H b:=λb J=>by
  obtain⟨xs,e⟩:=I.lists b (.inr ⟨i,x,hi,m,J⟩);rw[e];refine hid_some.mpr ⟨λz=>?_,e⟩
  rcases z with z | ⟨j,y,h,s,M⟩
  .obtain⟨ys,e'⟩:=I.sl b z;rw[I.new i x hi m b J]at e';cases e'
  .obtain⟨c,h⟩:=at_ (Y s) h;exact c (I.inj i j x y hi h m s b J M)
 have lists:∀b,E3 (ρ.set i (.val d)) o S b->∃u:HM,H b=some u.ho:=λb z=>I.lists b (aX3 rfl z)
 refine⟨by simp[I.len],I.base,I.sl,λj y h s=>I.new j y (at_ (Y s) h).2 s,λj k y z h h' s P=>I.inj j k y z (at_ (Y s) h).2 (at_ (Y P) h').2 s P,λj es h=>?_,λj U h=>?_,λj U h=>?_,λj t h=>?_⟩
 .obtain⟨c,h⟩:=at_ (Y rfl) h;obtain⟨p,Q,a,xs,b,D⟩:=I.own j es h;exact⟨p,Q,a,xs,b,D.mono g⟩
 .by_cases c:i=j
  .subst c;rw[Bg R]at h;cases h;rcases F with⟨rfl,rfl⟩ | ⟨u,rfl,rfl⟩
   .obtain⟨p,Q,a,xs,b,D⟩:=I.own i ds hi;exact⟨_,a,.lst (SqL.of (by rw[X p (by rw[Q];simp)];exact b)) (D.mono g)⟩
   .obtain⟨_,v,a,b⟩:=I.tr i u hi;exact⟨v,a,aZ2 O1 (λ_ _ q=>w6 lists q) g u X b⟩
  .rw[Ad0 c]at h;obtain⟨v,a,b⟩:=I.val j U h;exact⟨v,a,b.mono g⟩
 .obtain⟨c,h⟩:=at_ SS h
  exact I.bor j U h
 .obtain⟨c,h⟩:=at_ (Y rfl) h;obtain⟨n,v,a,b⟩:=I.tr j t h;exact⟨n,v,a,b.mono g (L2.Same.rf _)⟩
theorem bH6 {t:TS}(hi:ρ[i]? = some (.own ds))(h:W K t (ρ.set i (.val (.list ds))) R):W K t ρ R:=λS B D σ H o I s=>h S B D σ H o (I.frz hi (.inl ⟨rfl,rfl⟩)) s
theorem bO3 {t:TS}(hi:ρ[i]? = some (.tr u))(h:W K t (ρ.set i (.val u.data)) R):W K t ρ R:=λS B D σ H o I s=>h S B D σ H o (I.frz (ds:=[]) hi (.inr ⟨u,rfl,rfl⟩)) s
theorem aG3 {α:Type}{f:α->OT}{g:α->PyData}(h:∀a,(f a).data=g a):∀l:List α,OT.datas (l.map f)=l.map g
 | []=>rfl
 | a::l=>by simp[OT.datas,h a,aG3 h l]
end
end LV
namespace LV
open PySem PySem.Spec PyProof.Rows L2
def dB3 (K:Frag):R2:=λx y H Q=>∃l b xs zs,x=.ref l/\y=.ref b/\SqL K H l xs/\SqL K H b zs/\xs.length+zs.length<=sizeLine/\∀p,H p=none->Q (.ref p) (upd H p (.lst (xs++zs)))
theorem M7 (K:Frag)(h:X.K=K:=by rfl):OpR X (binaryOp .Add) (dB3 K):=by
 subst h;intro aA s σ H x y v u Q I rx ry h;obtain⟨l,b,xs,zs,rfl,rfl,hH,hB,hz,q⟩:=h;cases rx;cases ry;obtain⟨its,r,⟨⟨P,dd,data,sl⟩,n,ho,hc,hdd,hd⟩,_⟩:=I.list hH;obtain⟨j,B,⟨⟨R,Y,m,M⟩,n2,c,U,D,J⟩,_⟩:=I.list hB;subst hc hd U J;have e:its.toArray++j.toArray=(its++j).toArray:=by simp
 have hl:=r.length
 have hl2:=B.length
 refine concat_meets ⟨_,ho,rfl⟩ ⟨_,c,rfl⟩ noFill_list_add seq_list_add PySem.F.slot_list_add PySem.F.entry_list_add (PySem.F.args_list_add_2 _ _) (list_addW l b its.toArray j.toArray n n2 dd Y sl M (by simp;simp_all)) ⟨ho,c,?_⟩
 rw[e];exact⟨.ref _,_,I.lnew (r.append B) (by rw[Ab7];omega),rfl,q _ I.fresh⟩
end LV
namespace LV
open PySem L2
section
theorem aC9:∀{l l':AG},K5 (l++l')=(K5 l&&K5 l')
 | [],l'=>by simp[K5]
 | a::l,l'=>by simp[K5,aC9,Bool.and_assoc]
theorem bQ5:∀{l:AG},K5 l=true->∀d∈l,imm d=true
 | [],_,d,hd=>by simp at hd
 | a::l,h,d,hd=>by
  simp[K5]at h
  rcases Aa1.mp hd with rfl | z
  .exact h.1
  .exact bQ5 h.2 d z
theorem aS7 (m:E K false ta ρ (.list ds))(Y:E K false tb ρ (.list es))(hi:K5 ds=true)(c:K5 es=true)(X:ds.length+es.length<=sizeLine:=by first | decide | (unfold sizeLine;simp;done)):EF K (tOp (dB3 K) ta tb) ρ (ds++es):=λS B σ H o I Q q=>
 m S B σ H o I _ λx H1 j U=>Y S B σ H1 o (I.grow j) _ λy M e J=>by
  cases U with
  | @lst a xs _ sa ra=>
  cases J with
  | @lst b ys _ sb rb=>
  have s:=ra.mono e
  refine⟨a,b,xs,ys,rfl,rfl,O6 e sa,sb,by rw[ra.length,rb.length];exact X,λp hp=>q p _ _ (L2.Same.tr j (L2.Same.tr e (D9 hp))) (W6 (L2.Same.tr j e) hp) C7 (aD4 ((I.grow j).grow e).lists hp (s.append rb) ?_)⟩
  rw[aC9,hi,c];rfl
def O (K:Frag)(t:TO)(ρ:List Sl)(i:Option Int):Prop:=
 ∀(S:Addr->Prop) (B:Hp) (σ:St) (H:Hp) (o:Nat->AM),Env K S B H σ ρ o->∀Q,(∀H',Same H H'->Q i H')->t σ H Q
def aD6 (xs:AG)(lo hi:Option Int):AG:=List.take (HT.sIx xs.length xs.length hi-HT.sIx xs.length 0 lo) (List.drop (HT.sIx xs.length 0 lo) xs)
theorem Reps.cut (r:Reps K H xs ds)(lo hi:Option Int):Reps K H (bZ2 xs lo hi) (aD6 ds lo hi):=by
 unfold bZ2 aD6;rw[r.length];exact(r.drop _).take _
theorem W1 (lo hi:Option Int)(h:K5 ds=true):K5 (aD6 ds lo hi)=true:=by
 refine bM1 λd e=>?_
 have:=Df (Bk e)
 exact bQ5 h d this
theorem aR1:O K cG3 ρ none:=λS B σ H o I Q q=>q H (L2.Same.rf _)
theorem X4 (h:E K false t ρ (.int i)):O K (dL9 t) ρ (some i):=λS B σ H o I Q q=>h S B σ H o I _ λv e s r=>by
 cases r
 exact⟨i,rfl,q e s⟩
theorem aT2 {n:Nat}(h:n<=ds.length):aD6 ds (some (n:Int)) none=ds.drop n:=by
 unfold aD6 HT.sIx;simp only[];rw[Ab SS,Ac8,Nat.min_eq_left h]
 exact Dq SS
theorem aZ0 {n:Nat}(h:n<=ds.length):aD6 ds none (some (n:Int))=ds.take n:=by
 unfold aD6 HT.sIx;simp only[];rw[Ab SS,Ac8,Nat.min_eq_left h]
 simp
theorem cL2 (Y:E K false ta ρ (.list ds))(U:O K tl ρ lo)(X:O K th ρ hi)(c:K5 ds=true):EF K (tSl (dS5 K) ta tl th) ρ (aD6 ds lo hi):=λS B σ H o I Q q=>
 Y S B σ H o I _ λx H1 j J=>U S B σ H1 o (I.grow j) _ λm s=>X S B σ m o ((I.grow j).grow s) _ λR M=>by
  cases J with
  | @lst a xs _ sa ra=>
  have e:=L2.Same.tr s M
  exact⟨a,xs,rfl,O6 e sa,λp hp=>q p _ _ (L2.Same.tr j (L2.Same.tr e (D9 hp))) (W6 (L2.Same.tr j e) hp) C7 (aD4 (I.grow (L2.Same.tr j e)).lists hp ((ra.mono e).cut lo hi) (W1 lo hi c))⟩
end
end LV
namespace L2
open PySem
def dP3:Expr->Bool
 | .Starred ..=>false
 | _=>true
theorem bA2 (h:dP3 e=true):starEach (e::es) env=(false,eval e env)::starEach es env:=by
 cases e <;> first | rfl | cases h
theorem A0 (j:PE X e te)(c:PA X es t)(h:dP3 e=true:=by rfl):PA X (e::es) (E8 te t):=dG9 j c (bA2 h)
theorem aZ3 (K:Frag){p1 p2 pos1 pos2:Pos}(U:X.calm=true)(j:Gl X "list")(s:X.mg "list" = none)(c:Gl X "reversed")(m:X.mg "reversed" = none)(J:PE X e te)(Y:X.K=K:=by rfl)(h:dP3 e=true:=by rfl) :
  PE X (.Call (.Name "list" p1) [.Call (.Name "reversed" p2) [e] [] pos2] [] pos1) (LV.cH2 K te):=
 LV.bY6 K U j s c m J Y (bA2 h) (bA2 rfl)
end L2
namespace TT
def lin:AD->Nat->Nat->Prop
 | c::d::l,a,b=>(a=c/\b=d)\/lin (d::l) a b
 | _,_,_=>False
theorem cJ6 (a b:Nat):lin [] a b↔False:=Iff.rfl
theorem aG5 (c a b:Nat):lin [c] a b↔False:=Iff.rfl
theorem C5 (c d:Nat)(l:AD)(a b:Nat):lin (c::d::l) a b↔(a=c/\b=d)\/lin (d::l) a b:=Iff.rfl
theorem B9 (c:Nat)(w:AD)(a b:Nat):∀u:AD,lin (u++c::w) a b↔lin (u++[c]) a b\/lin (c::w) a b
 | []=>by simp[aG5]
 | [d]=>by simp[C5,aG5]
 | d::e::u=>by
  have j:=B9 c w a b (e::u)
  simp only[Ab6,C5]at j ⊢;rw[j];grind
theorem M8:∀{u:AD},lin (u++[c]) a b->a∈u
 | [],h=>h.elim
 | [d],h=>by
  rcases (C5 ..).mp h with⟨rfl,rfl⟩ | h
  .simp
  .exact h.elim
 | d::e::u,h=>by
  rcases (C5 ..).mp h with⟨rfl,rfl⟩ | h
  .simp
  .exact Ad4 _ (M8 (u:=e::u) h)
theorem N8 (h:lin (c::u) a b):b∈u:=by
 induction u generalizing c with
 | nil=>exact h.elim
 | cons d u e=>
  rcases (C5 ..).mp h with⟨rfl,rfl⟩ | h
  .simp
  .exact Ad4 _ (e h)
theorem X6 (h:lin l a b):a∈l/\b∈l:=by
 induction l with
 | nil=>exact h.elim
 | cons c l e=>
  refine⟨?_,Ad4 _ (N8 h)⟩;cases l with
  | nil=>exact h.elim
  | cons d l=>
   rcases (C5 ..).mp h with⟨rfl,rfl⟩ | h
   .simp
   .exact Ad4 _ (e h).1
def adj (l:AD)(a b:Nat):Prop:=lin (l++l.take 1) a b
structure Edit (row row':Nat->AD)(v x y:Nat)(L C R:AD):Prop where
 nd:∀q,(row q).Nodup
 self:∀q,q∉row q
 tri:∀q a b,adj (row q) a b->adj (row a) b q
 v2:v≠2
 fresh:∀q,v∉row q
 two:row 2=L++x::(C++y::R)
 newv:row' v=x::(C++[y,2])
 oldv:row v=[]
 new2:row' 2=L++x::v::y::R
 rx:∃u z w,row x=u++z::2::w/\row' x=u++z::v::2::w
 ry:∃u w,row y=u++2::w/\row' y=u++2::v::w
 rc:∀c∈C,∃u z w,row c=u++z::2::w/\row' c=u++z::v::w
 rest:∀q,q≠2->q≠v->q≠x->q≠y->q∉C->row' q=row q
section
def EE (x y:Nat)(C:AD)(a b:Nat):Prop:=lin (x::(C++[y])) a b
def W (x y:Nat)(C:AD)(q a b:Nat):Prop:=(q=2/\EE x y C a b)\/(b=2/\EE x y C q a)\/(a=2/\EE x y C b q)
def W' (v x y:Nat)(C:AD)(q a b:Nat):Prop:=(q=v/\EE x y C a b)\/(b=v/\EE x y C q a)\/(a=v/\EE x y C b q) \/
 (q=2/\a=x/\b=v)\/(q=x/\a=v/\b=2)\/(q=v/\a=2/\b=x)\/(q=2/\a=v/\b=y)\/(q=v/\a=y/\b=2)\/(q=y/\a=2/\b=v)
theorem aC1 {a b:Nat}(h:EE x y C a b):(a=x\/a∈C)/\(b∈C\/b=y):=by
 have h1:=M8 (u:=x::C) h
 have e:=N8 h
 exact⟨by simpa using h1,by simpa using e⟩
theorem Edit.facts (E:Edit row row' v x y L C R):(x≠y/\x≠2/\y≠2/\x≠v/\y≠v)/\(∀c∈C,c≠x/\c≠y/\c≠2/\c≠v)/\(L++x::(C++y::R)).Nodup:=by
 have h:=E.nd 2
 have e:=E.self 2
 have j:=E.fresh 2
 rw[E.two]at h e j;refine⟨?_,?_,h⟩
 .grind
 .intro c hc;grind
theorem eF4 (E:Edit row row' v x y L C R)(a b:Nat):adj (row' 2) a b↔(adj (row 2) a b/\¬W x y C 2 a b)\/W' v x y C 2 a b:=by
 obtain⟨⟨f1,f2,f3,f4,f5⟩,fc,nd⟩:=E.facts;unfold adj;rw[E.two,E.new2];have B:(L++x::(C++y::R)).take 1=(L++[x]).take 1:=by cases L <;> simp
 have P:(L++x::v::y::R).take 1=(L++[x]).take 1:=by cases L <;> simp
 rw[B,P];generalize Y:(L++[x]).take 1=t;have D:∀c∈t,c∈L++[x]:=λc m=>by rw[<- Y]at m;exact Bk m
 have U:L++x::(C++y::R)++t=L++x::(C++y::(R++t)):=by simp
 have J:L++x::v::y::R++t=L++x::v::y::(R++t):=by simp
 have M:x::(C++y::(R++t))=(x::C)++y::(R++t):=by simp
 rw[U,J,B9 x (v::y::(R++t)) a b L,B9 x (C++y::(R++t)) a b L,M,B9 y _ a b (x::C),C5 x v,C5 v y];have Q:lin ((x::C)++[y]) a b↔EE x y C a b:=Iff.rfl;rw[Q];have j := @aC1 x y C;have g1:lin (L++[x]) a b->¬EE x y C a b:=λh q=>by
  have:=(X6 h).2
  have:=(j q).2
  grind
 have g2:lin (y::(R++t)) a b->¬EE x y C a b:=λh q=>by
  have h2:=(j q).1
  have h3:a∈y::R:=by
   match t,Y with
   | [],_=>
    rcases Ac5 R with e | ⟨X,z,e⟩
    .subst e;exact h.elim
    .subst e
     have:=M8 (u:=y::X) (by simpa using h)
     simp at this ⊢;try grind
   | [z],_=>exact M8 (u:=y::R) h
   | z::z'::t',e=>
    have:=congrArg List.length e
    simp at this
  grind
 have w2:W x y C 2 a b↔EE x y C a b:=by
  unfold W;constructor
  .rintro (⟨_,h⟩ | ⟨_,h⟩ | ⟨_,h⟩)
   .exact h
   .have:=(j h).1;grind
   .have:=(j h).2;grind
  .exact λh=>.inl ⟨rfl,h⟩
 have s:W' v x y C 2 a b↔(a=x/\b=v)\/(a=v/\b=y):=by
  unfold W';have F:=E.v2;constructor
  .rintro (⟨h,_⟩ | ⟨_,h⟩ | ⟨_,h⟩ | h | h | h | h | h | h)
   .exact absurd h.symm F
   .have:=(j h).1;grind
   .have:=(j h).2;grind
   all_goals grind
  .grind
 rw[w2,s];grind
theorem tk1 {l:AD}(h:l≠[]):∃c,l.take 1=[c]/\c∈l:=by
 cases l with
 | nil=>exact absurd rfl h
 | cons c l=>exact⟨c,SS,SS⟩
theorem bO8 (E:Edit row row' v x y L C R)(a b:Nat):∃t,(∀c∈t,c∈L++[x])/\t.length=1/\(adj (row 2) a b↔lin (L++[x]) a b\/EE x y C a b\/lin (y::(R++t)) a b):=by
 refine⟨(L++[x]).take 1,λc s=>Bk s,SS,?_⟩
 unfold adj;rw[E.two];have m:(L++x::(C++y::R)).take 1=(L++[x]).take 1:=by cases L <;> simp
 rw[m];generalize (L++[x]).take 1=t;have e:L++x::(C++y::R)++t=L++x::(C++y::(R++t)):=by simp
 have j:x::(C++y::(R++t))=(x::C)++y::(R++t):=by simp
 rw[e,B9 x (C++y::(R++t)) a b L,j,B9 y _ a b (x::C)];exact Iff.rfl
theorem y7 (E:Edit row row' v x y L C R)(h:EE x y C a b):adj (row 2) a b:=by
 obtain⟨t,_,_,e⟩:=bO8 E a b;exact e.mpr (.inr (.inl h))
theorem cL3 (E:Edit row row' v x y L C R)(h:adj (row 2) a b)(c:a=x\/a∈C):EE x y C a b:=by
 obtain⟨_,_,m⟩:=E.facts;obtain⟨t,s,j,e⟩:=bO8 E a b;rcases e.mp h with h | h | h
 .have:=M8 h;grind
 .exact h
 .obtain⟨z,rfl⟩:∃z,t=[z]:=List.length_eq_one_iff.mp j
  have:=M8 (u:=y::R) h
  grind
theorem bT4 (E:Edit row row' v x y L C R)(h:adj (row 2) a b)(j:b∈C\/b=y):EE x y C a b:=by
 obtain⟨_,_,m⟩:=E.facts;obtain⟨t,s,c,e⟩:=bO8 E a b;rcases e.mp h with h | h | h
 .have:=(X6 h).2;grind
 .exact h
 .have:=N8 h
  grind
theorem dY2 (E:Edit row row' v x y L C R):adj (row 2) a b↔adj (row a) b 2:=⟨E.tri _ _ _,λh=>E.tri _ _ _ (E.tri _ _ _ h)⟩
theorem dH1 (E:Edit row row' v x y L C R):adj (row 2) a b↔adj (row b) 2 a:=⟨λh=>E.tri _ _ _ (E.tri _ _ _ h),λh=>E.tri _ _ _ h⟩
theorem eF5 (E:Edit row row' v x y L C R)(a b:Nat):adj (row' v) a b↔(adj (row v) a b/\¬W x y C v a b)\/W' v x y C v a b:=by
 obtain⟨⟨f1,f2,f3,Y,X⟩,U,M⟩:=E.facts;have J:=E.v2;unfold adj;rw[E.newv,E.oldv];have e:x::(C++[y,2])++(x::(C++[y,2])).take 1=(x::C)++y::[2,x]:=by simp
 rw[e,B9 y [2,x] a b (x::C),C5,C5];have s:lin ((x::C)++[y]) a b↔EE x y C a b:=Iff.rfl;rw[s];have j := @aC1 x y C;have h1:∀c,¬EE x y C v c:=λc h=>by have:=(j h).1;grind
 have m:∀c,¬EE x y C c v:=λc h=>by have:=(j h).2;grind
 unfold W'
 simp[cJ6,aG5,h1,m]
 grind
theorem eH0 (E:Edit row row' v x y L C R)(a b:Nat):adj (row' x) a b↔(adj (row x) a b/\¬W x y C x a b)\/W' v x y C x a b:=by
 obtain⟨⟨f1,f2,f3,U,f5⟩,fc,nd⟩:=E.facts;have hv:=E.v2;obtain⟨u,z,w,o,n⟩:=E.rx;have s:=E.nd x;have j:∀c,EE x y C x c↔adj (row x) c 2:=λc=>⟨λh=>E.tri _ _ _ (y7 E h),λh=>cL3 E ((dY2 E).mpr h) (.inl rfl)⟩
 have M := @aC1 x y C
 have m:∀c,¬EE x y C c x:=λc h=>by have:=(M h).2;grind
 have w1:W x y C x a b↔(b=2/\adj (row x) a 2):=by unfold W;simp[f2,m,j]
 have w2:W' v x y C x a b↔(b=v/\adj (row x) a 2)\/(a=v/\b=2):=by unfold W';simp[f2,U,f1,m,j]
 rw[w1,w2];unfold adj;rw[o]at s;rw[o,n];have B:(u++z::2::w).take 1=(u++[z]).take 1:=by cases u <;> simp
 have P:(u++z::v::2::w).take 1=(u++[z]).take 1:=by cases u <;> simp
 rw[B,P];have Q:∀c∈(u++[z]).take 1,c∈u++[z]:=λc J=>Bk J
 generalize (u++[z]).take 1=t at Q;have Y:u++z::2::w++t=u++z::2::(w++t):=by simp
 have X:u++z::v::2::w++t=u++z::v::2::(w++t):=by simp
 rw[Y,X,B9 z (2::(w++t)) a b u,B9 z (v::2::(w++t)) a b u,B9 z (2::(w++t)) a 2 u,C5,C5,C5,C5];have D:¬lin (u++[z]) a 2:=λh=>by have:=(X6 h).2;grind
 have F:¬lin (2::(w++t)) a 2:=λh=>by have:=N8 h;grind
 have n3:lin (u++[z]) a b->b≠2:=λh e=>D (e▸h)
 have n4:lin (2::(w++t)) a b->b≠2:=λh e=>F (e▸h)
 grind
theorem eG3 (E:Edit row row' v x y L C R)(a b:Nat):adj (row' y) a b↔(adj (row y) a b/\¬W x y C y a b)\/W' v x y C y a b:=by
 obtain⟨⟨f1,f2,f3,f4,D⟩,fc,nd⟩:=E.facts;have hv:=E.v2;obtain⟨u,w,o,n⟩:=E.ry;have m:=E.nd y;have s:∀c,EE x y C c y↔adj (row y) 2 c:=λc=>⟨λh=>(dH1 E).mp (y7 E h),λh=>bT4 E ((dH1 E).mpr h) (.inr rfl)⟩
 have F := @aC1 x y C
 have X:∀c,¬EE x y C y c:=λc h=>by have:=(F h).1;grind
 have w1:W x y C y a b↔(a=2/\adj (row y) 2 b):=by unfold W;simp[f3,X,s]
 have w2:W' v x y C y a b↔(a=v/\adj (row y) 2 b)\/(a=2/\b=v):=by unfold W';simp[f3,D,Ne.symm f1,X,s]
 rw[w1,w2];unfold adj;rw[o]at m;rw[o,n];have P:(u++2::w).take 1=(u++[2]).take 1:=by cases u <;> simp
 have t2:(u++2::v::w).take 1=(u++[2]).take 1:=by cases u <;> simp
 rw[P,t2];obtain⟨h,B,hh⟩:=tk1 (l:=u++[2]) SS
 rw[B];have M:u++2::w++[h]=u++2::(w++[h]):=by simp
 have Q:u++2::v::w++[h]=u++2::v::(w++[h]):=by simp
 rw[M,Q];obtain⟨z,j,Y⟩:∃z j,w++[h]=z::j:=by cases w with
  | nil=>exact⟨h,[],rfl⟩
  | cons c w=>exact⟨c,w++[h],rfl⟩
 have J:∀b,¬lin (z::j) 2 b:=λb q=>by rw[<- Y]at q;have:=M8 q;grind
 have U:∀b,¬lin (u++[2]) 2 b:=λb q=>by have:=M8 q;grind
 rw[Y,B9 2 (z::j) a b u,B9 2 (v::z::j) a b u,B9 2 (z::j) 2 b u,C5,C5,C5,C5];have n3:lin (u++[2]) a b->a≠2:=λh e=>U b (e▸h)
 have n4:lin (z::j) a b->a≠2:=λh e=>J b (e▸h)
 have:=U b
 have:=J b
 grind
theorem eF8 (E:Edit row row' v x y L C R)(U:c∈C)(a b:Nat):adj (row' c) a b↔(adj (row c) a b/\¬W x y C c a b)\/W' v x y C c a b:=by
 obtain⟨⟨f1,f2,f3,f4,f5⟩,fc,nd⟩:=E.facts;obtain⟨g1,g2,Q,g4⟩:=fc c U;have hv:=E.v2;obtain⟨u,z,w,o,n⟩:=E.rc c U;have Y:=E.nd c;have j:∀d,EE x y C c d↔adj (row c) d 2:=λd=>⟨λh=>E.tri _ _ _ (y7 E h),λh=>cL3 E ((dY2 E).mpr h) (.inr U)⟩
 have s:∀d,EE x y C d c↔adj (row c) 2 d:=λd=>⟨λh=>(dH1 E).mp (y7 E h),λh=>bT4 E ((dH1 E).mpr h) (.inl U)⟩
 have w1:W x y C c a b↔(b=2/\adj (row c) a 2)\/(a=2/\adj (row c) 2 b):=by unfold W;simp[Q,j,s]
 have w2:W' v x y C c a b↔(b=v/\adj (row c) a 2)\/(a=v/\adj (row c) 2 b):=by unfold W';simp[g1,g2,Q,g4,j,s]
 rw[w1,w2];have fr:v∉row c:=E.fresh c;unfold adj;rw[o]at Y fr;rw[o,n];have t1:(u++z::2::w).take 1=(u++[z]).take 1:=by cases u <;> simp
 have t2:(u++z::v::w).take 1=(u++[z]).take 1:=by cases u <;> simp
 rw[t1,t2];obtain⟨h,ht,hh⟩:=tk1 (l:=u++[z]) SS
 rw[ht];have e1:u++z::2::w++[h]=u++z::2::(w++[h]):=by simp
 have e2:u++z::v::w++[h]=u++z::v::(w++[h]):=by simp
 rw[e1,e2];obtain⟨k,m,ez⟩:∃k m,w++[h]=k::m:=by cases w with
  | nil=>exact⟨h,[],rfl⟩
  | cons c w=>exact⟨c,w++[h],rfl⟩
 have X:2∉w++[h]:=by grind
 rw[ez]at X ⊢;have J:∀p q,lin (u++[z]) p q->p≠2/\q≠2:=λp q h=>by have:=X6 h;grind
 have M:∀p q,lin (k::m) p q->p≠2/\q≠2:=λp q h=>by have:=X6 h;grind
 have fl:∀p q r,lin (u++z::r::k::m) p q↔lin (u++[z]) p q\/(p=z/\q=r)\/(p=r/\q=k)\/lin (k::m) p q:=λp q r=>by
  rw[B9 z (r::k::m) p q u,C5,C5]
 have z2:z≠2:=λe=>by have:=(Aa4.mp Y).2.1;simp[e]at this
 have k2:k≠2:=λe=>X (e▸Az ..)
 have D:¬lin (u++[z]) a 2:=λh=>(J _ _ h).2 rfl
 have F:¬lin (k::m) a 2:=λh=>(M _ _ h).2 rfl
 have B:¬lin (u++[z]) 2 b:=λh=>(J _ _ h).1 rfl
 have P:¬lin (k::m) 2 b:=λh=>(M _ _ h).1 rfl
 simp only[fl,D,F,B,P,z2.symm,k2.symm,false_or,or_false,and_false,false_and,true_and,and_true];constructor
 .rintro (h | h | h | h)
  .exact .inl ⟨.inl h,λe=>e.elim (λe=>(J _ _ h).2 e.1) λe=>(J _ _ h).1 e.1⟩
  .exact .inr (.inl h.symm)
  .exact .inr (.inr h)
  .exact .inl ⟨.inr (.inr (.inr h)),λe=>e.elim (λe=>(M _ _ h).2 e.1) λe=>(M _ _ h).1 e.1⟩
 .rintro (⟨h | h | h | h,e⟩ | h | h)
  .exact .inl h
  .exact absurd (.inl h.symm) e
  .exact absurd (.inr h) e
  .exact .inr (.inr (.inr h))
  .exact .inr (.inl h.symm)
  .exact .inr (.inr (.inl h))
theorem eG6 (E:Edit row row' v x y L C R)(e:q≠2)(s:q≠v)(m:q≠x)(Y:q≠y)(J:q∉C)(a b:Nat):adj (row' q) a b↔(adj (row q) a b/\¬W x y C q a b)\/W' v x y C q a b:=by
 rw[E.rest q e s m Y J];have j := @aC1 x y C;have X:∀c,¬EE x y C q c:=λc h=>by have:=(j h).1;grind
 have U:∀c,¬EE x y C c q:=λc h=>by have:=(j h).2;grind
 unfold W W'
 simp[e,s,m,Y,X,U]
theorem cA7 (E:Edit row row' v x y L C R)(q a b:Nat):adj (row' q) a b↔(adj (row q) a b/\¬W x y C q a b)\/W' v x y C q a b:=by
 by_cases e:q=2
 .subst e;exact eF4 E a b
 by_cases c:q=v
 .subst c;exact eF5 E a b
 by_cases s:q=x
 .subst s;exact eH0 E a b
 by_cases m:q=y
 .subst m;exact eG3 E a b
 by_cases j:q∈C
 .exact eF8 E j a b
 .exact eG6 E e c s m j a b
theorem Edit.tri' (E:Edit row row' v x y L C R)(q a b:Nat)(h:adj (row' q) a b):adj (row' a) b q:=by
 rw[cA7 E]at h ⊢;rcases h with⟨h,n⟩ | h
 .refine .inl ⟨E.tri _ _ _ h,?_⟩;unfold W at n ⊢;grind
 .right
  unfold W' at h ⊢;rcases h with h | h | h | h | h | h | h | h | h
  all_goals obtain⟨e,h⟩:=h
  all_goals simp[e,h]
theorem Edit.nd' (E:Edit row row' v x y L C R)(q:Nat):(row' q).Nodup:=by
 obtain⟨⟨f1,f2,f3,X,U⟩,J,Q⟩:=E.facts;have M:=E.v2;by_cases j:q=2
 .subst j;rw[E.new2]
  have:=E.fresh 2
  rw[E.two]at this;grind
 by_cases s:q=v
 .subst s;rw[E.newv];grind
 by_cases m:q=x
 .subst m;obtain⟨u,z,w,o,n⟩:=E.rx;have h1:=E.nd q;have e:=E.fresh q;rw[o]at h1 e;rw[n];grind
 by_cases Y:q=y
 .subst Y;obtain⟨u,w,o,n⟩:=E.ry;have h1:=E.nd q;have e:=E.fresh q;rw[o]at h1 e;rw[n];grind
 by_cases c:q∈C
 .obtain⟨u,z,w,o,n⟩:=E.rc q c;have h1:=E.nd q;have e:=E.fresh q;rw[o]at h1 e;rw[n];grind
 .rw[E.rest q j s m Y c];exact E.nd q
theorem Edit.self' (E:Edit row row' v x y L C R)(q:Nat):q∉row' q:=by
 obtain⟨⟨f1,f2,f3,X,U⟩,J,Q⟩:=E.facts;have M:=E.v2;have e:=E.self q;by_cases j:q=2
 .subst j;rw[E.two]at e;rw[E.new2];grind
 by_cases s:q=v
 .subst s;rw[E.newv];grind
 by_cases m:q=x
 .subst m;obtain⟨u,z,w,o,n⟩:=E.rx;rw[o]at e;rw[n];grind
 by_cases Y:q=y
 .subst Y;obtain⟨u,w,o,n⟩:=E.ry;rw[o]at e;rw[n];grind
 by_cases c:q∈C
 .obtain⟨u,z,w,o,n⟩:=E.rc q c;rw[o]at e;rw[n];grind
 .rw[E.rest q j s m Y c];exact e
end
structure S where
 k:Nat
 path:AD
 heap:AD
 i0:Nat->AD
 i1:Nat->AD
 i2:Nat->AD
 o0:Nat->Nat
 o1:Nat->Nat
 o2:Nat->Nat
def put {α:Type}(f:Nat->α)(a:Nat)(x:α):Nat->α:=λb=>if b=a then x else f b
theorem D7 {x:α}:put f a x a=x:=by simp[put]
theorem D1 {x:α}(h:b≠a):put f a x b=f b:=by simp[put,h]
def S.row (s:S)(q:Nat):AD:=
 if q=0 then 1::(s.i0 0++[2]) else if q=1 then 2::((s.i1 1).reverse++[0]) else if q=2 then s.path.reverse++s.heap
 else if q<s.k+3 then s.o0 q::(s.i2 q++s.o1 q::(s.i0 q++s.o2 q::(s.i1 q).reverse)) else []
def S.first:S:={k:=0,path:=[0],heap:=[1],i0:=λ_=>[],i1:=λ_=>[],i2:=λ_=>[],o0:=λ_=>2,o1:=λ_=>2,o2:=λ_=>2}
def S.h1 (s:S)(a:Nat):AD:=(s.path.take a).reverse++s.heap
def S.step (s:S)(a b:Nat):S where
 k:=s.k+1
 path:=(s.k+3)::s.path.drop a
 heap:=(s.h1 a).drop b
 i0:=put s.i0 ((s.path.drop a).headD 0) (s.i0 ((s.path.drop a).headD 0)++[s.k+3])
 i1:=put s.i1 (((s.h1 a).drop b).headD 0) (s.i1 (((s.h1 a).drop b).headD 0)++[s.k+3])
 i2:=put s.i2 (s.k+3) ((s.h1 a).take b)
 o0:=put s.o0 (s.k+3) ((s.path.drop a).headD 0)
 o1:=put s.o1 (s.k+3) (((s.h1 a).drop b).headD 0)
 o2:=λq=>if q=s.k+3 then 2 else if q∈(s.h1 a).take b then s.k+3 else s.o2 q
structure bN5 (s:S):Prop where
 nd:∀q,(s.row q).Nodup
 self:∀q,q∉s.row q
 tri:∀q a b,adj (s.row q) a b->adj (s.row a) b q
 lt:∀q,∀p∈s.row q,p<s.k+3
 pe:∃p,s.path=p++[0]
 he:∃h,s.heap=h++[1]
 bd:∀q,(q∈s.path\/q∈s.heap)->q≠2/\(3<=q->s.o2 q=2)
 emp:∀q,s.k+3<=q->s.i0 q=[]/\s.i1 q=[]
theorem bD8 {s:S}(h:s.k+3<=q):s.row q=[]:=by
 unfold S.row;rw[Ab LL,Ab LL,Ab LL,Ab dZ5]
theorem O0 {s:S}(h:3<=q)(e:q<s.k+3):s.row q=s.o0 q::(s.i2 q++s.o1 q::(s.i0 q++s.o2 q::(s.i1 q).reverse)):=by
 unfold S.row;rw[Ab zq7,Ab zq7,Ab zq4,Ac e]
theorem aL3 {s:S}:s.row 2=s.path.reverse++s.heap:=by simp[S.row]
theorem aO6 {s:S}:s.row 0=1::(s.i0 0++[2]):=by simp[S.row]
theorem bA9 {s:S}:s.row 1=2::((s.i1 1).reverse++[0]):=by simp[S.row]
theorem cA4:bN5 S.first where
 nd:=λq=>by
  unfold S.row S.first;dsimp only
  repeat' split
  all_goals simp
  lia
 self:=λq=>by
  unfold S.row S.first;dsimp only
  repeat' split
  all_goals simp
  all_goals lia
 tri:=λq a b h=>by
  have e:∀q a b,adj (S.first.row q) a b↔(q=0/\((a=1/\b=2)\/(a=2/\b=1)))\/(q=1/\((a=2/\b=0)\/(a=0/\b=2)))\/(q=2/\((a=0/\b=1)\/(a=1/\b=0))):=λq a b=>by
   unfold S.row S.first adj;dsimp only
   repeat' split
   all_goals (simp_all[lin])
   all_goals lia
  rw[e]at h ⊢;rcases h with⟨rfl,⟨rfl,rfl⟩ | ⟨rfl,rfl⟩⟩ | ⟨rfl,⟨rfl,rfl⟩ | ⟨rfl,rfl⟩⟩ | ⟨rfl,⟨rfl,rfl⟩ | ⟨rfl,rfl⟩⟩ <;> decide
 lt:=λq p=>by
  unfold S.row S.first;dsimp only
  repeat' split
  all_goals (simp <;> lia)
 pe:=⟨[],rfl⟩
 he:=⟨[],rfl⟩
 bd:=λq h=>by
  simp only[S.first,Ad8]at h
  lia
 emp:=λq _=>⟨rfl,rfl⟩
theorem bL1 (I:bN5 s)(ha:a<s.path.length)(hb:b<a+s.heap.length) :
  ∃x px y hy,s.path.drop a=x::px/\(s.h1 a).drop b=y::hy/\Edit s.row (s.step a b).row (s.k+3) x y px.reverse ((s.h1 a).take b) hy/\bN5 (s.step a b):=by
 obtain⟨p0,R⟩:=I.pe;obtain⟨h0,P⟩:=I.he;obtain⟨x,px,j⟩:∃x px,s.path.drop a=x::px:=by
  cases e:s.path.drop a with
  | nil=>have:=List.drop_eq_nil_iff.mp e;lia
  | cons x px=>exact⟨x,px,rfl⟩
 have hl:(s.h1 a).length=a+s.heap.length:=by
  unfold S.h1;simp;lia
 obtain⟨y,hy,m⟩:∃y hy,(s.h1 a).drop b=y::hy:=by
  cases e:(s.h1 a).drop b with
  | nil=>have:=List.drop_eq_nil_iff.mp e;lia
  | cons y hy=>exact⟨y,hy,rfl⟩
 have X:s.row 2=px.reverse++x::((s.h1 a).take b++y::hy):=by
  rw[aL3,<- m,Ad3]
  have:s.path=s.path.take a++x::px:=by rw[<- j,Ad3]
  conv=>lhs;rw[this]
  unfold S.h1
  simp
 have nd2:=I.nd 2
 have Q:=I.self 2
 have Y:=I.lt 2
 rw[X]at nd2 Q Y;have pl:∃p1,x::px=p1++[0]:=by
  rw[<- j,R];rw[R]at ha;simp at ha;rw[List.drop_append_of_le_length dX1];exact⟨_,rfl⟩
 have hyl:∃h1,y::hy=h1++[1]:=by
  rw[<- m];unfold S.h1;rw[P,<- Ad7]
  have:(p0.length:Nat)+1=s.path.length:=by rw[R];simp
  have l1:((s.path.take a).reverse++h0).length=a+h0.length:=by simp;lia
  have l2:s.heap.length=h0.length+1:=by rw[P];simp
  rw[List.drop_append_of_le_length LL]
  exact⟨_,rfl⟩
 have one_mem:1∈y::hy:=by obtain⟨h1,e⟩:=hyl;rw[e];simp
 have F:0∈x::px:=by obtain⟨h1,e⟩:=pl;rw[e];simp
 generalize D:(s.h1 a).take b=C at *;have B:∀c∈C,c≠0/\c≠1/\c≠2/\c<s.k+3:=by
  intro c J;refine⟨?_,?_,?_,Y c (by simp[J])⟩
  .rintro rfl;grind
  .rintro rfl;grind
  .rintro rfl;grind
 have hx:x≠1/\x≠2/\x<s.k+3:=⟨by rintro rfl;grind,by rintro rfl;grind,Y x SS⟩
 have hyy:y≠0/\y≠2/\y<s.k+3:=⟨by rintro rfl;grind,by rintro rfl;grind,Y y SS⟩
 have M:∀q,q∈s.row 2->3<=q->s.o2 q=2:=λq U h3=>by
  rw[aL3]at U;simp at U;exact(I.bd q U).2 h3
 have o2x:3<=x->s.o2 x=2:=M x (by rw[X];simp)
 have o2y:3<=y->s.o2 y=2:=M y (by rw[X];simp)
 have o2c:∀c∈C,s.o2 c=2:=λc J=>by
  have:=B c J
  exact M c (by rw[X];simp[J]) LL
 have xy:x≠y:=by rintro rfl;grind
 have xC:x∉C:=by grind
 have yC:y∉C:=by grind
 have E:Edit s.row (s.step a b).row (s.k+3) x y px.reverse C hy:=by
  refine⟨I.nd,I.self,I.tri,LL,λq U=>?_,X,?_,bD8 (Aa7 _),?_,?_,?_,?_,?_⟩
  .have:=I.lt q _ U;simp_all
  .rw[O0 SS (by simp[S.step])]
   have e1:=I.emp (s.k+3) (Aa7 _)
   simp only[S.step,j,m,D,Bx,D7,if_true];rw[D1 LL,D1 LL,e1.1,e1.2]
   simp
  .rw[aL3];simp only[S.step,j,m]
   simp
  .by_cases x0:x=0
   .subst x0;rcases Ac5 (1::s.i0 0) with e | ⟨u,z,e⟩
    .cases e
    .refine⟨u,z,[],?_,?_⟩
     .rw[aO6,<- Ab6,e];simp
     .rw[aO6];simp only[S.step,j,Bx,D7];rw[Ad7,<- Ab6,e];simp
   .have x3:3<=x:=by lia
    rcases Ac5 (s.o0 x::(s.i2 x++s.o1 x::s.i0 x)) with e | ⟨u,z,e⟩
    .cases e
    .refine⟨u,z,(s.i1 x).reverse,?_,?_⟩
     .rw[O0 x3 hx.2.2,o2x x3]
      have:s.o0 x::(s.i2 x++s.o1 x::(s.i0 x++2::(s.i1 x).reverse))=(s.o0 x::(s.i2 x++s.o1 x::s.i0 x))++2::(s.i1 x).reverse:=by simp
      rw[this,e];simp
     .rw[O0 x3 (by simp[S.step];lia)]
      simp only[S.step,j,m,D,Bx,D7];rw[D1 LL,D1 LL,D1 LL,D1 xy,Ab LL,Ab xC,o2x x3]
      have:s.o0 x::(s.i2 x++s.o1 x::(s.i0 x++[s.k+3]++2::(s.i1 x).reverse))=(s.o0 x::(s.i2 x++s.o1 x::s.i0 x))++(s.k+3)::2::(s.i1 x).reverse:=by simp
      rw[this,e];simp
  .by_cases y1:y=1
   .subst y1;refine⟨[],(s.i1 1).reverse++[0],?_,?_⟩
    .rw[bA9];simp
    .rw[bA9];simp only[S.step,m,Bx,D7]
     simp
   .have y3:3<=y:=by lia
    refine⟨s.o0 y::(s.i2 y++s.o1 y::s.i0 y),(s.i1 y).reverse,?_,?_⟩
    .rw[O0 y3 hyy.2.2,o2y y3];simp
    .rw[O0 y3 (by simp[S.step];lia)]
     simp only[S.step,j,m,D,Bx,D7];rw[D1 LL,D1 LL,D1 LL,D1 (Ne.symm xy),Ab LL,Ab yC,o2y y3]
     simp
  .intro c J;obtain⟨c0,c1,c2,ck⟩:=B c J;have c3:3<=c:=by lia
   have cx:c≠x:=λe=>xC (e▸J)
   have cy:c≠y:=λe=>yC (e▸J)
   rcases Ac5 (s.o0 c::(s.i2 c++s.o1 c::s.i0 c)) with e | ⟨u,z,e⟩
   .cases e
   .refine⟨u,z,(s.i1 c).reverse,?_,?_⟩
    .rw[O0 c3 ck,o2c c J]
     have:s.o0 c::(s.i2 c++s.o1 c::(s.i0 c++2::(s.i1 c).reverse))=(s.o0 c::(s.i2 c++s.o1 c::s.i0 c))++2::(s.i1 c).reverse:=by simp
     rw[this,e];simp
    .rw[O0 c3 (by simp[S.step];exact zq2)]
     simp only[S.step,j,m,D,Bx];rw[D1 zq5,D1 zq5,D1 zq5,D1 cx,D1 cy,Ab zq5,Ac J]
     have:s.o0 c::(s.i2 c++s.o1 c::(s.i0 c++(s.k+3)::(s.i1 c).reverse))=(s.o0 c::(s.i2 c++s.o1 c::s.i0 c))++(s.k+3)::(s.i1 c).reverse:=by simp
     rw[this,e];simp
  .intro q q2 qv qx qy qC;by_cases q0:q=0
   .subst q0;rw[aO6,aO6];simp only[S.step,j,Bx];rw[D1 qx]
   by_cases q1:q=1
   .subst q1;rw[bA9,bA9];simp only[S.step,m,Bx];rw[D1 qy]
   by_cases qk:q<s.k+3
   .rw[O0 LL qk,O0 LL (by simp[S.step];exact zq2)]
    simp only[S.step,j,m,D,Bx];rw[D1 qv,D1 qv,D1 qv,D1 qx,D1 qy,Ab qv,Ab qC]
   .rw[bD8 (s:=s.step a b) (by show s.k+1+3<=q;lia),bD8 (s:=s) YY]
 refine⟨x,px,y,hy,j,m,E,⟨E.nd',E.self',E.tri',λq p hp=>?_,?_,?_,λq U=>?_,λq U=>?_⟩⟩
 .show p<s.k+1+3
  by_cases h2:q=2
  .subst h2;rw[E.new2]at hp
   have:=Y p
   grind
  by_cases hv:q=s.k+3
  .subst hv;rw[E.newv]at hp
   have:=Y p
   grind
  by_cases qx:q=x
  .subst qx;obtain⟨u,z,w,o,n⟩:=E.rx
   have:=I.lt q p
   rw[o]at this;rw[n]at hp;grind
  by_cases qy:q=y
  .subst qy;obtain⟨u,w,o,n⟩:=E.ry
   have:=I.lt q p
   rw[o]at this;rw[n]at hp;grind
  by_cases qC:q∈C
  .obtain⟨u,z,w,o,n⟩:=E.rc q qC
   have:=I.lt q p
   rw[o]at this;rw[n]at hp;grind
  .rw[E.rest q h2 hv qx qy qC]at hp
   have:=I.lt q p hp
   exact zq2
 .obtain⟨p1,e⟩:=pl;exact⟨(s.k+3)::p1,by simp only[S.step,j,e];simp⟩
 .obtain⟨h1,e⟩:=hyl;exact⟨h1,by simp only[S.step,m,e]⟩
 .have hq':q=s.k+3\/q∈x::px\/q∈y::hy:=by
   simp only[S.step,j,m]at U;simp at U ⊢;grind
  rcases hq' with rfl | hq'
  .exact⟨LL,λ_=>by simp[S.step]⟩
  .have hm:q∈s.row 2:=by rw[X];grind
   have hnC:q∉C:=by grind
   refine⟨by rintro rfl;exact I.self 2 hm,λh3=>?_⟩
   simp only[S.step,D];rw[Ab (by have:=I.lt 2 q hm;exact zq5),Ab hnC]
   exact M q hm h3
 .have U:s.k+1+3<=q:=U
  have:=I.emp q zq1
  simp only[S.step,j,m,Bx];rw[D1 LL,D1 LL]
  exact this
theorem bS2 (l:AD)(x y:Nat):lin (l.map f) x y↔∃a b,x=f a/\y=f b/\lin l a b:=by
 induction l with
 | nil=>simp[cJ6]
 | cons c l e=>
  cases l with
  | nil=>simp[aG5]
  | cons d l=>
   simp only[Ac7,C5];simp only[Ac7]at e;rw[e];constructor
   .rintro (⟨rfl,rfl⟩ | ⟨a,b,e1,e2,h⟩)
    .exact⟨c,d,rfl,rfl,.inl ⟨rfl,rfl⟩⟩
    .exact⟨a,b,e1,e2,.inr h⟩
   .rintro⟨a,b,rfl,rfl,⟨rfl,rfl⟩ | h⟩
    .exact .inl ⟨rfl,rfl⟩
    .exact .inr ⟨a,b,rfl,rfl,h⟩
theorem cE1 (l:AD)(x y:Nat):adj (l.map f) x y↔∃a b,x=f a/\y=f b/\adj l a b:=by
 unfold adj;rw[<- bS2]
 simp
theorem V6 (u w:AD)(x y:Nat):adj (w++u) x y↔adj (u++w) x y:=by
 cases u with
 | nil=>simp
 | cons a u=>
  cases w with
  | nil=>simp
  | cons b w=>
   unfold adj;have e:b::w++a::u++(b::w++a::u).take 1=(b::w)++a::(u++[b]):=by simp
   have j:a::u++b::w++(a::u++b::w).take 1=(a::u)++b::(w++[a]):=by simp
   rw[e,j,B9 a (u++[b]) x y (b::w),B9 b (w++[a]) x y (a::u)];simp only[Ab6];exact Or.comm
theorem B2 (h:adj l a b):a∈l/\b∈l:=by
 have:=X6 h
 simp only[Aa0]at this;exact⟨this.1.elim id Bk,this.2.elim id Bk⟩
theorem o9 (h:a∈l):∃b,adj l a b:=by
 obtain⟨u,w,rfl⟩:=Ad5 h;obtain⟨b,r,e⟩:∃b r,(w++(u++[a]).take 1)=b::r:=by
  cases w with
  | nil=>cases u with
   | nil=>exact⟨a,[],rfl⟩
   | cons c u=>exact⟨c,[],rfl⟩
  | cons c w=>exact⟨c,_,rfl⟩
 refine⟨b,?_⟩;unfold adj;have t:(u++a::w).take 1=(u++[a]).take 1:=by cases u <;> simp
 rw[t,Ad7,Ab6,e,B9,C5];exact .inr (.inl ⟨rfl,rfl⟩)
theorem aO7 (h:b∈l):∃a,adj l a b:=by
 obtain⟨u,w,rfl⟩:=Ad5 h;rw[show u++b::w=u++(b::w) from rfl]
 rcases Ac5 (b::w++u) with e | ⟨r,a,e⟩
 .cases e
 .refine⟨a,(V6 u (b::w) a b).mp ?_⟩;cases r with
  | nil=>
   have:b::w++u=[a]:=by simpa using e
   have j:b=a:=by simpa using congrArg List.head? this
   subst j;rw[this];exact .inl ⟨rfl,rfl⟩
  | cons c r=>
   have s:b=c:=by simpa using congrArg List.head? e
   subst s;rw[e];unfold adj
   have:((b::r).concat a)++((b::r).concat a).take 1=(b::r)++a::[b]:=by simp
   rw[this,B9,C5];exact .inr (.inl ⟨rfl,rfl⟩)
theorem Q7 (R:l.Nodup)(h1:adj l a b)(J:adj l a c):b=c:=by
 have M:=(B2 h1).1
 obtain⟨u,w,rfl⟩:=Ad5 M;have s:=(V6 u (a::w) a b).mpr h1;have m:=(V6 u (a::w) a c).mpr J;have nd':(a::w++u).Nodup:=by grind
 unfold adj at s m;generalize w++u=v at *;have e:a::w++u=a::(w++u):=rfl;cases Y:w++u with
 | nil=>
  rw[e,Y]at s m
  simp[lin]at s m
  simp[*]
 | cons d j=>
  rw[e,Y]at s m nd';have q:∀z,lin (a::d::j++List.take 1 (a::d::j)) a z->z=d:=λz X=>by
   have U:a::d::j++List.take 1 (a::d::j)=a::d::(j++[a]):=by simp
   rw[U,C5]at X;rcases X with h | h
   .exact h.2
   .have:=M8 (u:=d::j) (c:=a) (by simpa using h)
    grind
  rw[q b s,q c m]
theorem e8 (R:l.Nodup)(h1:adj l a c)(J:adj l b c):a=b:=by
 have M:=(B2 h1).2
 obtain⟨u,w,rfl⟩:=Ad5 M;have s:=(V6 u (c::w) a c).mpr h1;have m:=(V6 u (c::w) b c).mpr J;have nd':(c::(w++u)).Nodup:=by grind
 have e:c::w++u=c::(w++u):=rfl
 rw[e]at s m;generalize w++u=v at *;unfold adj at s m;rcases Ac5 v with Y | ⟨j,d,Y⟩
 .subst Y
  simp[lin]at s m
  simp[*]
 .subst Y;have q:∀z,lin (c::j.concat d++List.take 1 (c::j.concat d)) z c->z=d:=λz X=>by
   have U:c::j.concat d++List.take 1 (c::j.concat d)=(c::j)++d::[c]:=by simp
   rw[U,B9,C5]at X;rcases X with h | h | h
   .have:=N8 (c:=c) (u:=j++[d]) h
    simp at nd'
    grind
   .exact h.1
   .exact h.elim
  rw[q a s,q b m]
def mn (l:AD):Nat:=l.min?.getD 0
theorem aW4 (h:l≠[]):mn l∈l/\∀a∈l,mn l<=a:=by
 unfold mn;cases e:l.min? with
 | none=>exact absurd (List.min?_eq_none_iff.mp e) h
 | some m=>exact List.min?_eq_some_iff.mp e
def W2 (l:AD):AD:=l.drop (l.idxOf (mn l))++l.take (l.idxOf (mn l))
theorem u6 (l:AD):(W2 l).Perm l:=by
 unfold W2;exact(Ca).trans (by rw[Ad3])
theorem bJ2 (l:AD)(a b:Nat):adj (W2 l) a b↔adj l a b:=by
 unfold W2;rw[V6,Ad3]
theorem bP9 (l:AD):(W2 l).length=l.length:=(u6 l).length_eq
theorem begun_mem:a∈W2 l↔a∈l:=(u6 l).mem_iff
theorem bY5:(W2 l).Nodup↔l.Nodup:=(u6 l).nodup_iff
structure Good (n:Nat)(r:Nat->AD):Prop where
 nd:∀q,(r q).Nodup
 self:∀q,q∉r q
 tri:∀q a b,adj (r q) a b->adj (r a) b q
 lt:∀q,∀p∈r q,p<n
 hi:∀q,n<=q->r q=[]
 two:∀q,q<n->2<=(r q).length
 out:adj (r 2) 1 0
 conn:∀R:Nat->Prop,R 0->(∀a b,R a->b∈r a->R b)->∀q,q<n->R q
 sum:((List.range n).map λq=>(r q).length).sum+12=6*n
 three:3<=n
theorem Good.sym (G:Good n r)(h:q∈r p):p∈r q:=by
 obtain⟨b,e⟩:=o9 h;exact(B2 (G.tri _ _ _ e)).2
structure bV1 (s:S):Prop where
 two:∀q,q<s.k+3->2<=(s.row q).length
 o0:∀q,3<=q->q<s.k+3->s.o0 q<q/\s.o0 q∈s.row q
 sum:((List.range (s.k+3)).map λq=>(s.row q).length).sum+12=6*(s.k+3)
theorem cD5:bV1 S.first where
 two:=λq h=>by
  have h:q<3:=h
  match q,h with
  | 0,_=>decide
  | 1,_=>decide
  | 2,_=>decide
 o0:=λq h e=>by
  have e:q<3:=e
  lia
 sum:=by decide
theorem bY8 {f g:Nat->Nat}{l:AD}(U:l.Nodup)(s:∀q∈l,q<n)(h:∀q,q<n->q∉l->f q=g q) :
  ((List.range n).map f).sum+(l.map g).sum=((List.range n).map g).sum+(l.map f).sum:=by
 induction l generalizing f with
 | nil=>
  have:(List.range n).map f=(List.range n).map g:=Bj λq j=>h q (Ab5.mp j) SS
  simp[this]
 | cons c l X=>
  have R:=s c SS
  have nd':=Aa5.mp U
  have Y:∀(f:Nat->Nat) (x:Nat),((List.range n).map λq=>if q=c then x else f q).sum+f c=((List.range n).map f).sum+x:=by
   intro f x
   clear h X s U nd'
   induction n with
   | zero=>simp_all
   | succ n m=>
    rw[Bq,Ad2,Ad2,List.sum_append,List.sum_append];by_cases e:c=n
    .subst e
     have:(List.range c).map (λq=>if q=c then x else f q)=(List.range c).map f:=Bj λq j=>by
      have:=Ab5.mp j
      rw[Ab zq5]
     rw[this]
     simp
     lia
    .have:=m LL
     simp only[Ac7,Cw,List.sum_cons,List.sum_nil];rw[Ab (Ne.symm e)]
     lia
  have Q:=Y f (g c)
  have:=X (f:=λq=>if q=c then g c else f q) nd'.2 (λq j=>s q (by simp[j])) (λq j M=>by
   by_cases e:q=c
   .subst e;simp
   .simp only[Ab e];exact h q j (by simp[e,M]))
  have J:(l.map λq=>if q=c then g c else f q)=l.map f:=Bj λq j=>by
   rw[Ab (by rintro rfl;exact nd'.1 j)]
  rw[J]at this;simp only[Ac7,List.sum_cons]
  lia
theorem cM8 (I:bN5 s)(M:bV1 s)(ha:a<s.path.length)(hb:b<a+s.heap.length):bV1 (s.step a b):=by
 obtain⟨x,px,y,D,ex,ey,E,I'⟩:=bL1 I ha hb;obtain⟨⟨f1,f2,f3,f4,f5⟩,fc,nd⟩:=E.facts;have hx:x<s.k+3:=I.lt 2 x (by rw[E.two];simp)
 have hyl:y<s.k+3:=I.lt 2 y (by rw[E.two];simp)
 have lx:((s.step a b).row x).length=(s.row x).length+1:=by
  obtain⟨u,z,w,o,n⟩:=E.rx;rw[o,n];simp;rfl
 have ly:((s.step a b).row y).length=(s.row y).length+1:=by
  obtain⟨u,w,o,n⟩:=E.ry;rw[o,n];simp;rfl
 have B:∀q,q≠2->q≠s.k+3->q≠x->q≠y->((s.step a b).row q).length=(s.row q).length:=λq U c Y X=>by
  by_cases Q:q∈(s.h1 a).take b
  .obtain⟨u,z,w,o,n⟩:=E.rc q Q;rw[o,n];simp
  .rw[E.rest q U c Y X Q]
 have F:((s.step a b).row 2).length=px.length+3+D.length:=by rw[E.new2];simp;lia
 have g2:(s.row 2).length=px.length+2+((s.h1 a).take b).length+D.length:=by rw[E.two];simp only[Ab7,Au,Ae2];lia
 have P:((s.step a b).row (s.k+3)).length=((s.h1 a).take b).length+3:=by rw[E.newv];simp only[Ab7,Au,List.length_nil]
 have J:(s.row (s.k+3)).length=0:=by rw[E.oldv];rfl
 refine⟨λq j=>?_,λq R j=>?_,?_⟩
 .have j:q<s.k+1+3:=j
  by_cases U:q=2
  .rw[U,F];lia
  by_cases c:q=s.k+3
  .rw[c,P];simp
  have:=M.two q LL
  by_cases Y:q=x
  .rw[Y,lx];rw[Y]at this;exact zq2
  by_cases X:q=y
  .rw[X,ly];rw[X]at this;exact zq2
  rw[B q U c Y X];exact this
 .have hq':q<s.k+1+3:=j
  refine⟨?_,by rw[O0 R j];simp⟩
  by_cases c:q=s.k+3
  .subst c;simp only[S.step,ex,Bx,D7];exact hx
  .simp only[S.step];rw[D1 c];exact(M.o0 q R LL).1
 .show((List.range (s.k+1+3)).map λq=>((s.step a b).row q).length).sum+12=6*(s.k+1+3)
  have sc:=bY8 (n:=s.k+1+3) (f:=λq=>((s.step a b).row q).length) (g:=λq=>(s.row q).length) (l:=[2,s.k+3,x,y]) (by
   have:=E.v2
   simp only[Aa5,Aa1,Ac2,or_false,not_or,List.nodup_nil,not_false_eq_true,and_true];exact⟨⟨zq6,Ne.symm f2,Ne.symm f3⟩,⟨Ne.symm f4,Ne.symm f5⟩,f1⟩) (by
   intro q j;simp only[Aa1,Ac2,or_false]at j
   lia) (by
   intro q j m;simp only[Aa1,Ac2,or_false,not_or]at m;exact B q m.1 m.2.1 m.2.2.1 m.2.2.2)
  simp only[Ac7,Cw,List.sum_cons,List.sum_nil]at sc;have e:((List.range (s.k+1+3)).map λq=>(s.row q).length).sum=((List.range (s.k+3)).map λq=>(s.row q).length).sum:=by
   rw[show s.k+1+3=(s.k+3)+1 by rfl,Bq,Ad2,List.sum_append]
   simp only[Ac7,Cw,List.sum_cons,List.sum_nil,J]
   simp
  have:=M.sum
  rw[F,P,lx,ly,g2,J,e]at sc
  lia
theorem cR9 (I:bN5 s)(M:bV1 s):Good (s.k+3) s.row where
 nd:=I.nd
 self:=I.self
 tri:=I.tri
 lt:=I.lt
 hi:=λq h=>bD8 h
 two:=M.two
 out:=by
  obtain⟨p,X⟩:=I.pe;obtain⟨h,Y⟩:=I.he;rw[aL3,X,Y];unfold adj
  have:(p++[0]).reverse++(h++[1])++((p++[0]).reverse++(h++[1])).take 1=(0::p.reverse++h)++1::[0]:=by simp
  rw[this,B9,C5];exact .inr (.inl ⟨rfl,rfl⟩)
 conn:=λR j c q Q=>by
  have m:∀b∈s.row 0,R b:=λb e=>c 0 b j e
  have F:(1:Nat)∈s.row 0:=by rw[aO6];simp
  have B:(2:Nat)∈s.row 0:=by rw[aO6];simp
  have sym:∀p q,q∈s.row p->p∈s.row q:=λp q h=>by
   obtain⟨b,e⟩:=o9 h;exact(B2 (I.tri _ _ _ e)).2
  induction q using Nat.strongRecOn with
  | _ q D=>
   by_cases J:3<=q
   .obtain⟨h1,U⟩:=M.o0 q J Q;exact c _ _ (D _ h1 aH5) (sym _ _ U)
   .have:q=0\/q=1\/q=2:=by lia
    rcases this with rfl | rfl | rfl
    .exact j
    .exact m 1 F
    .exact m 2 B
 sum:=M.sum
 three:=by simp
structure Nm (n:Nat)(f:Nat->Nat):Prop where
 lt:∀v,v<n->f v<n
 inj:∀v w,v<n->w<n->f v=f w->v=w
 c0:f 0=0
 c1:f 1=1
 c2:f 2=2
theorem p5 {l:AD}(s:l.Nodup):∀{m:AD},(∀x∈l,x∈m)->l.length<=m.length:=by
 induction l with
 | nil=>intro m _;simp
 | cons a l c=>
  intro m h;have nd':=Aa5.mp s;have e:a∈m:=h a SS
  have:=c nd'.2 (m:=m.erase a) λx j=>(List.mem_erase_of_ne (by rintro rfl;exact nd'.1 j)).mpr (h x (by simp[j]))
  have Y:=Cq e
  have:=Cz e
  simp only[Au]
  lia
theorem Nm.surj (h:Nm n f)(q:Nat)(M:q<n):∃v,v<n/\f v=q:=by
 have R:((List.range n).map f).Nodup:=by
  rw[Ac6,Ae0];refine Cr ?_ (Ac6.mp Bz);intro a b X U s e;exact s (h.inj a b (Ab5.mp X) (Ab5.mp U) e)
 have sub:(List.range n).map f ⊆ List.range n:=λx c=>by
  obtain⟨v,Y,rfl⟩:=Aa8.mp c;exact Ab5.mpr (h.lt v (Ab5.mp Y))
 have:q∈(List.range n).map f:=Classical.byContradiction λJ=>by
  have j:=Ab5.mpr M
  have:=p5 R (m:=(List.range n).erase q) λx c=>(List.mem_erase_of_ne (by rintro rfl;exact J c)).mpr (sub c)
  have Q:=Cq j
  have:=Cz j
  simp only[Aa3,Cd]at *
  lia
 obtain⟨v,Y,e⟩:=Aa8.mp this;exact⟨v,Ab5.mp Y,e⟩
theorem Good.named (G:Good n r)(F:Nm n f)(h:∀v,v<n->r' (f v)=W2 ((r v).map f))(D:∀q,n<=q->r' q=[]):Good n r':=by
 have cA7:∀v,v<n->∀x y,adj (r' (f v)) x y↔∃a b,x=f a/\y=f b/\adj (r v) a b:=λv j x y=>by rw[h v j,bJ2,cE1]
 have m:∀v,v<n->∀x,x∈r' (f v)↔∃a,a∈r v/\x=f a:=λv j x=>by
  rw[h v j,begun_mem,Aa8];exact⟨λ⟨a,h1,B⟩=>⟨a,h1,B.symm⟩,λ⟨a,h1,B⟩=>⟨a,h1,B.symm⟩⟩
 have up:∀q,n<=q\/∃v,v<n/\f v=q:=λq=>by
  by_cases s:n<=q
  .exact .inl s
  .exact .inr (F.surj q YY)
 have len:∀v,v<n->(r' (f v)).length=(r v).length:=λv j=>by rw[h v j,bP9,Aa3]
 refine⟨λq=>?_,λq=>?_,λq a b X=>?_,λq p hp=>?_,D,λq s=>?_,?_,λR h0 hR q s=>?_,?_,G.three⟩
 .rcases up q with s | ⟨v,j,rfl⟩
  .rw[D q s];simp
  .rw[h v j,bY5,Ac6,Ae0];refine Cr ?_ (Ac6.mp (G.nd v));intro a b Y U J e;exact J (F.inj a b (G.lt v a Y) (G.lt v b U) e)
 .rcases up q with s | ⟨v,j,rfl⟩
  .rw[D q s];simp
  .intro hm;obtain⟨a,Y,e⟩:=(m v j _).mp hm;exact G.self v (F.inj v a j (G.lt v a Y) e▸Y)
 .rcases up q with s | ⟨v,j,rfl⟩
  .rw[D q s]at X;exact X.elim
  .obtain⟨c,d,rfl,rfl,Q⟩:=(cA7 v j _ _).mp X;exact(cA7 c (G.lt v c (B2 Q).1) _ _).mpr ⟨d,v,rfl,rfl,G.tri _ _ _ Q⟩
 .rcases up q with s | ⟨v,j,rfl⟩
  .rw[D q s]at hp;exact absurd hp SS
  .obtain⟨a,Y,rfl⟩:=(m v j _).mp hp;exact F.lt a (G.lt v a Y)
 .obtain⟨v,j,rfl⟩:=F.surj q s;rw[len v j];exact G.two v j
 .have:=G.three
  have:=(cA7 2 AO 1 0).mpr ⟨1,0,F.c1.symm,F.c0.symm,G.out⟩
  rwa [F.c2]at this
 .obtain⟨v,j,rfl⟩:=F.surj q s
  have:=G.three
  refine G.conn (λv=>v<n->R (f v)) (λ_=>by rw[F.c0];exact h0) (λa b Y U hbn=>?_) v j j
  by_cases M:a<n
  .exact hR _ _ (Y M) ((m a M _).mpr ⟨b,U,rfl⟩)
  .rw[G.hi a YY]at U;exact absurd U SS
 .have p:((List.range n).map f).Perm (List.range n):=by
   refine(List.perm_ext_iff_of_nodup ?_ Bz).mpr λq=>?_
   .rw[Ac6,Ae0];refine Cr ?_ (Ac6.mp Bz);intro a b Y U J e;exact J (F.inj a b (Ab5.mp Y) (Ab5.mp U) e)
   .constructor
    .intro s;obtain⟨v,j,rfl⟩:=Aa8.mp s;exact Ab5.mpr (F.lt v (Ab5.mp j))
    .intro s;obtain⟨v,j,rfl⟩:=F.surj q (Ab5.mp s);exact Aa8.mpr ⟨v,Ab5.mpr j,rfl⟩
  have P:=(p.map λq=>(r' q).length).sum_nat
  have e2:((List.range n).map f).map (λq=>(r' q).length)=(List.range n).map λv=>(r v).length:=by
   rw[Ae3];exact Bj λv j=>len v (Ab5.mp j)
  rw[e2]at P;rw[<- P];exact G.sum
def pv (F:Nat->Nat):Nat->Nat
 | 0=>0
 | i+1=>F i
def gst (F G:Nat->Nat):Nat->S
 | 0=>S.first
 | i+1=>(gst F G i).step (F i-pv F i) (G i-pv G i)
structure Rws (F G:Nat->Nat)(m:Nat):Prop where
 f1:∀i,i<m->pv F i<=F i
 f2:∀i,i<m->F i<=i
 g1:∀i,i<m->pv G i<=G i
 g2:∀i,i<m->G i<=F i
structure eF9 (F G:Nat->Nat)(i:Nat):Prop where
 inv:bN5 (gst F G i)
 more:bV1 (gst F G i)
 k:(gst F G i).k=i
 p:(gst F G i).path.length+pv F i=1+i
 h:(gst F G i).heap.length+pv G i=1+pv F i
 le:pv F i<=i
 le2:pv G i<=pv F i
theorem P7 (R:Rws F G m):∀i,i<=m->eF9 F G i
 | 0,_=>⟨cA4,cD5,rfl,rfl,rfl,Aa7 _,Aa7 _⟩
 | i+1,hi=>by
  have I:=P7 R i zq1
  have f1:=R.f1 i AO
  have f2:=R.f2 i AO
  have U:=R.g1 i AO
  have s:=R.g2 i AO
  have h1:=I.p
  have J:=I.h
  have e:F i-pv F i<(gst F G i).path.length:=by lia
  have j:G i-pv G i<(F i-pv F i)+(gst F G i).heap.length:=by lia
  obtain⟨x,Q,y,M,Y,X,E,c⟩:=bL1 I.inv e j;refine⟨c,cM8 I.inv I.more e j,?_,?_,?_,?_,s⟩
  .show(gst F G i).k+1=i+1
   rw[I.k]
  .show(((gst F G i).k+3)::(gst F G i).path.drop (F i-pv F i)).length+F i=1+(i+1)
   rw[Au,Bm]
   lia
  .show(((gst F G i).h1 (F i-pv F i)).drop (G i-pv G i)).length+G i=1+F i
   rw[Bm];unfold S.h1;rw[Ab7,Ae2,Ad1]
   lia
  .show F i<=i+1
   exact zq3
theorem bX1 (R:Rws F G m):Good (m+3) (gst F G m).row:=by
 have I:=P7 R m (Aa7 _)
 have:=cR9 I.inv I.more
 rwa [I.k]at this
theorem aD2 (F G:Nat->Nat):∀i,(gst F G i).k=i
 | 0=>rfl
 | i+1=>by show(gst F G i).k+1=i+1;rw[aD2 F G i]
def pa (F G:Nat->Nat)(v:Nat):AD:=(gst F G (v-2)).path.tail
def hp (F G:Nat->Nat)(v:Nat):AD:=(gst F G (v-2)).heap
theorem aH0 (F G:Nat->Nat)(i:Nat):(gst F G (i+1)).path=(i+3)::pa F G (i+3):=by
 show((gst F G i).k+3)::(gst F G i).path.drop (F i-pv F i)=_
 rw[aD2];rfl
theorem dZ6 (F G:Nat->Nat)(i:Nat):pa F G (i+3)=(gst F G i).path.drop (F i-pv F i):=rfl
theorem dP8 (F G:Nat->Nat)(i:Nat):(gst F G (i+1)).o0 (i+3)=(pa F G (i+3)).headD 0:=by
 show put (gst F G i).o0 ((gst F G i).k+3) _ (i+3)=_
 rw[aD2,D7];rfl
theorem dP5 (F G:Nat->Nat)(i:Nat):(gst F G (i+1)).o1 (i+3)=(hp F G (i+3)).headD 0:=by
 show put (gst F G i).o1 ((gst F G i).k+3) _ (i+3)=_
 rw[aD2,D7];rfl
theorem dL4 (F G:Nat->Nat)(i:Nat):∀j,i<j->(gst F G j).o0 (i+3)=(pa F G (i+3)).headD 0
 | 0,h=>by simp_all
 | j+1,h=>by
  by_cases e:i=j
  .subst e;exact dP8 F G i
  .rw[<- dL4 F G i j LL]
   show put (gst F G j).o0 ((gst F G j).k+3) _ (i+3)=_
   rw[aD2,D1 XX]
theorem dL0 (F G:Nat->Nat)(i:Nat):∀j,i<j->(gst F G j).o1 (i+3)=(hp F G (i+3)).headD 0
 | 0,h=>by simp_all
 | j+1,h=>by
  by_cases e:i=j
  .subst e;exact dP5 F G i
  .rw[<- dL0 F G i j LL]
   show put (gst F G j).o1 ((gst F G j).k+3) _ (i+3)=_
   rw[aD2,D1 XX]
theorem cW9 (F G:Nat->Nat):∀j q,3<=q->q<j+3->(gst F G j).o2 q=2\/(q<(gst F G j).o2 q/\(gst F G j).o2 q<j+3)
 | 0,q,h,h'=>by omega
 | j+1,q,h,h'=>by
  have e:(gst F G (j+1)).o2 q=if q=(gst F G j).k+3 then 2 else if q∈((gst F G j).h1 (F j-pv F j)).take (G j-pv G j) then(gst F G j).k+3 else(gst F G j).o2 q:=rfl
  rw[e,aD2];by_cases c:q=j+3
  .simp[c]
  .rw[Ab c]
   have:=cW9 F G j q h LL
   split
   .lia
   .lia
section
structure At (F G:Nat->Nat)(i:Nat):Prop where
 pe:∃p,pa F G (i+3)=p++[0]
 he:∃h,hp F G (i+3)=h++[1]
 nd:((i+3)::(pa F G (i+3)++hp F G (i+3))).Nodup
 lt:∀x,x∈pa F G (i+3)\/x∈hp F G (i+3)->x<i+3/\x≠2
theorem eD6 (R:Rws F G m)(hi:i<m):At F G i:=by
 have I:=P7 R (i+1) AO
 have c:=I.inv.nd 2
 rw[aL3,aH0]at c;have lt:=I.inv.lt 2;rw[aL3,aH0,I.k]at lt;have s:=I.inv.bd;obtain⟨p,e⟩:=I.inv.pe;obtain⟨h,Y⟩:=I.inv.he;rw[aH0]at e;have nd':((i+3)::(pa F G (i+3)++hp F G (i+3))).Nodup:=by
  have j:(((i+3)::pa F G (i+3)).reverse++(gst F G (i+1)).heap).Perm ((i+3)::(pa F G (i+3)++hp F G (i+3))):=by
   exact(List.reverse_perm _).append_right _
  exact j.nodup_iff.mp c
 refine⟨?_,⟨h,Y⟩,nd',λx hx=>?_⟩
 .cases p with
  | nil=>simp at e
  | cons y p=>simp  [Ab6,Bv]at e;exact⟨p,e.2⟩
 .have h1:=lt x (by
   rcases hx with hx | hx
   .simp[hx]
   .exact Ac1 _ hx)
  have X:=(s x (by
   rcases hx with hx | hx
   .rw[aH0];simp[hx]
   .right;exact hx)).1
  have U:x≠i+3:=by
   rintro rfl
   have:=(Aa5.mp nd').1
   exact this (Aa0.mpr hx)
  lia
end
structure Bt (F G:Nat->Nat)(m:Nat)(f:Nat->Nat)(d t:AA):Prop where
 R:Rws F G m
 N:Nm (m+3) f
 dl:d.length=m+3
 dr:∀v,v<m+3->d[f v]? = some (W2 (((gst F G m).row v).map f))
 tl:t.length=m
 tr:∀v,3<=v->v<m+3->t[f v-3]? = some [f ((gst F G m).o0 v),f ((gst F G m).o1 v),f ((gst F G m).o2 v)]
def og (t:AA)(c q:Nat):Nat:=((t[q-3]?.getD []))[c]?.getD 0
theorem Nm.lo (N:Nm n f)(h:3<=n)(j:q<n):f q<3↔q<3:=by
 constructor
 .intro hl;have c:=N.c0;have s:=N.c1;have m:=N.c2;rcases (show f q=0\/f q=1\/f q=2 by lia) with e | e | e
  .have:=N.inj q 0 j bM3 XX;simp[*]
  .have:=N.inj q 1 j zq1 XX;simp[*]
  .have:=N.inj q 2 j AO XX;simp[*]
 .intro hl;have c:=N.c0;have s:=N.c1;have m:=N.c2;rcases (show q=0\/q=1\/q=2 by lia) with e | e | e <;> subst e <;> simp[*]
section
def trn (d:AA)(q:Nat):AD:=d[q]?.getD []
theorem Bt.good (B:Bt F G m f d t):Good (m+3) (trn d):=by
 refine Good.named (bX1 B.R) B.N (λv j=>?_) λq e=>?_
 .unfold trn;rw[B.dr v j];rfl
 .unfold trn;rw[Ad6 (by rw[B.dl];exact e)];rfl
def oc (s:S):Nat->Nat->Nat
 | 0=>s.o0
 | 1=>s.o1
 | _=>s.o2
theorem Bt.og (B:Bt F G m f d t)(Y:c<3)(j:3<=v)(s:v<m+3):og t c (f v)=f (oc (gst F G m) c v):=by
 unfold TT.og;rw[B.tr v j s];rcases (show c=0\/c=1\/c=2 by lia) with e | e | e <;> subst e <;> rfl
theorem cP1 (Y:c<3)(j:3<=v)(m:v<s.k+3):oc s c v∈s.row v:=by
 rw[O0 j m];rcases (show c=0\/c=1\/c=2 by lia) with e | e | e <;> subst e <;> simp[oc]
theorem Bt.out_mem (B:Bt F G m f d t)(j:c<3)(U:3<=q)(X:q<m+3):TT.og t c q∈trn d q/\TT.og t c q<m+3:=by
 obtain⟨v,e,rfl⟩:=B.N.surj q X;have v3:3<=v:=by have:=B.N.lo SS e;lia
 have Y:=aD2 F G m
 have s:TT.og t c (f v)∈trn d (f v):=by
  unfold trn;rw[B.dr v e,B.og j v3 e];exact begun_mem.mpr (Aa8.mpr ⟨_,cP1 j v3 (by rw[Y];exact e),rfl⟩)
 exact⟨s,B.good.lt _ _ s⟩
end
theorem U5 {a b:AD}(h:(a++b).Nodup):∀x,x∈a->x∈b->False:=λx h1 e=>(Aa4.mp h).2.2 x h1 x e rfl
structure dZ4 (F G:Nat->Nat)(i:Nat):Prop where
 k:(gst F G i).k=i
 a:F i-pv F i<(gst F G i).path.length
 b:G i-pv G i<((gst F G i).h1 (F i-pv F i)).length
 pl:(gst F G i).path.length<=i+1
 hl:((gst F G i).h1 (F i-pv F i)).length<=i+2
 lo:∀x∈((gst F G i).h1 (F i-pv F i)).take (G i-pv G i),3<=x/\x<i+3
 px:∃x r,(gst F G i).path.drop (F i-pv F i)=x::r/\x<i+3/\((gst F G i).i0 x).length<=i+3
 hy:∃y r,((gst F G i).h1 (F i-pv F i)).drop (G i-pv G i)=y::r/\y<i+3/\((gst F G i).i1 y).length<=i+3
 e0:(gst F G i).i0 (i+3)=[]
 e1:(gst F G i).i1 (i+3)=[]
theorem cQ4 {l:AD}(j:l.Nodup)(h:∀x∈l,x<n):l.length<=n:=by
 have:=p5 j λx e=>Ab5.mpr (h x e)
 simpa using this
theorem row_len (I:bN5 s)(q:Nat):(s.row q).length<=s.k+3:=cQ4 (I.nd q) (I.lt q)
theorem dR6 (I:bN5 s)(h:q<s.k+3)(j:q≠2)(h1:q≠1):(s.i0 q).length<=s.k+3:=by
 have:=row_len I q
 by_cases e:q=0
 .subst e;rw[aO6]at this;simp at this;lia
 .rw[O0 LL h]at this;simp at this;lia
theorem dQ8 (I:bN5 s)(h:q<s.k+3)(j:q≠2)(e:q≠0):(s.i1 q).length<=s.k+3:=by
 have:=row_len I q
 by_cases h1:q=1
 .subst h1;rw[bA9]at this;simp at this;lia
 .rw[O0 LL h]at this;simp at this;lia
theorem cA9 (R:Rws F G m)(hi:i<m):dZ4 F G i:=by
 have I:=P7 R i zq1
 have A:=eD6 R hi
 have f1:=R.f1 i hi
 have f2:=R.f2 i hi
 have g1:=R.g1 i hi
 have g2:=R.g2 i hi
 have h1:=I.p
 have h2:=I.h
 have U:=I.inv.nd 2
 have lt:=I.inv.lt 2
 rw[aL3]at U lt;rw[I.k]at lt;have hx1:((gst F G i).h1 (F i-pv F i)).length=(F i-pv F i)+(gst F G i).heap.length:=by
  unfold S.h1;rw[Ab7,Ae2,Ad1];lia
 obtain⟨p,hp⟩:=A.pe;obtain⟨h,hh⟩:=A.he;have B:(gst F G i).path.drop (F i-pv F i)=p++[0]:=by rw[<- hp];rfl
 have e2:((gst F G i).h1 (F i-pv F i)).drop (G i-pv G i)=h++[1]:=by rw[<- hh];rfl
 have s:∀x,x∈(gst F G i).path\/x∈(gst F G i).heap->x<i+3/\x≠2:=λx hx=>⟨lt x (by rcases hx with hx | hx <;> simp[hx]),(I.inv.bd x hx).1⟩
 have j:∀x∈(gst F G i).h1 (F i-pv F i),x∈(gst F G i).path.take (F i-pv F i)\/x∈(gst F G i).heap:=λx hx=>by
  unfold S.h1 at hx;simpa using hx
 have c:=λx hx=>(j x hx).imp Bk id
 have J:((gst F G i).path.take (F i-pv F i)++(gst F G i).path.drop (F i-pv F i)).Nodup:=by
  rw[Ad3]
  have:=(Aa4.mp U).1
  exact(List.reverse_perm _).nodup_iff.mp this
 have ndh:((gst F G i).h1 (F i-pv F i)).Nodup:=by
  refine Aa4.mpr ⟨((List.reverse_perm _).nodup_iff.mpr (Aa4.mp J).1),(Aa4.mp U).2.1,λx hx y hy e=>?_⟩
  .subst e;exact U5 U x (by simpa using Bk (Ds.mp hx)) hy
 refine⟨I.k,LL,LL,LL,LL,λx hx=>?_,?_,?_,?_,?_⟩
 .have Q:=Bk hx
  obtain⟨X,D⟩:=s x (c x Q);refine⟨?_,X⟩;have n1:x≠1:=λe=>by
   subst e;have nd':=ndh;rw[<- Ad3 (G i-pv G i) ((gst F G i).h1 (F i-pv F i))]at nd';exact U5 nd' 1 hx (by rw[e2];simp)
  have n0:x≠0:=λe=>by
   subst e;have z:0∈(gst F G i).path.drop (F i-pv F i):=by rw[B];simp
   rcases j 0 Q with w | w
   .exact U5 J 0 w z
   .exact U5 U 0 (by simpa using Df z) w
  lia
 .cases Y:(gst F G i).path.drop (F i-pv F i) with
  | nil=>rw[B]at Y;simp at Y
  | cons x r=>
   have M:x∈(gst F G i).path:=Df (by rw[Y];simp)
   obtain⟨X,D⟩:=s x (.inl M);refine⟨x,r,rfl,X,?_⟩;have n1:x≠1:=λe=>by
    subst e;obtain⟨h',P⟩:=I.inv.he;exact U5 U 1 (by simpa using M) (by rw[P];simp)
   have:=dR6 I.inv (by rw[I.k];exact X) D n1
   rwa [I.k]at this
 .cases Y:((gst F G i).h1 (F i-pv F i)).drop (G i-pv G i) with
  | nil=>rw[e2]at Y;simp at Y
  | cons y r=>
   have M:y∈(gst F G i).h1 (F i-pv F i):=Df (by rw[Y];simp)
   obtain⟨X,D⟩:=s y (c y M);refine⟨y,r,rfl,X,?_⟩;have n0:y≠0:=λe=>by
    subst e;have z:0∈(gst F G i).path.drop (F i-pv F i):=by rw[B];simp
    rcases j 0 M with w | w
    .exact U5 J 0 w z
    .exact U5 U 0 (by simpa using Df z) w
   have:=dQ8 I.inv (by rw[I.k];exact X) D n0
   rwa [I.k]at this
 .exact(I.inv.emp (i+3) (by rw[I.k];simp)).1
 .exact(I.inv.emp (i+3) (by rw[I.k];simp)).2
theorem cQ7 (R:Rws F G m):∀i,i<=m->(gst F G i).i2 2=[]
 | 0,_=>rfl
 | i+1,h=>by
  show put (gst F G i).i2 ((gst F G i).k+3) (((gst F G i).h1 (F i-pv F i)).take (G i-pv G i)) 2=[]
  exact cQ7 R i zq1
end TT
namespace LV
open PySem L2
theorem cH9 (j:List Sl)(h:T K c ρ b)(h1:b=true->W K t ρ {R with nx:=λr=>r=j})(m:b=false->W K u ρ {R with nx:=λr=>r=j})(s:R.nx j):W K (dH5 c t u) ρ R:=
 X2 h (λe=>(h1 e).weak (λr z=>by rw[z];exact s) (λ_ z=>z) (λ_ z=>z) (λ_ z=>z) (λ_ z=>z)) (λe=>(m e).weak (λr z=>by rw[z];exact s) (λ_ z=>z) (λ_ z=>z) (λ_ z=>z) (λ_ z=>z))
def Sl.nb:Sl->Bool
 | .bor _=>false
 | _=>true
theorem w5:O7 (x::r)=(x.nb&&O7 r):=by cases x <;> rfl
theorem T2 (h:(S6 0 n)[i]? = some d):d=.int (i:Int)/\i<n:=by
 unfold S6 at h;have e:=(Ab0.mp h).1;have e:i<n:=by simpa using e
 rw[Aa9,List.getElem?_range e]at h;refine⟨?_,e⟩
 have:=(Ab4 h).symm
 simpa using this
theorem N3:(S6 lo n).length=n:=by simp[S6]
def nI (l:AD):AG:=l.map λ(x:Nat)=>PyData.int (x:Int)
def lN (l:AD):PyData:=.list (nI l)
def oN (l:AD):OT:=.lst (l.map λ(x:Nat)=>OT.leaf (.int (x:Int)))
def fl (F:Nat->Nat)(m:Nat):AF:=(List.range m).map λi=>(F i:Int)
def V2 (k:Nat)(o0 o1 o2:Nat->Nat):OT:=.lst ((List.range k).map λj=>oN [o0 (j+3),o1 (j+3),o2 (j+3)])
def N7 (n:Nat)(i0 i1 i2:Nat->AD):OT:=.lst ((List.range n).map λq=>.tup [oN (i0 q),oN (i1 q),oN (i2 q)])
theorem C9 (l:AD):(nI l).length=l.length:=by simp[nI]
theorem F5 (l:AD):K5 (nI l)=true:=e7 (λ_=>rfl) l
theorem m5 (l l':AD):nI (l++l')=nI l++nI l':=by simp[nI]
theorem dO5 (l:AD):nI l.reverse=(nI l).reverse:=by simp[nI]
theorem cI9 (l:AD):(oN l).data=lN l:=by
 unfold oN lN nI;simp  [OT.data];rw[aG3 (g:=λx:Nat=>PyData.int x) (λ_=>rfl)]
theorem cN9 (k:Nat)(o0 o1 o2:Nat->Nat):(V2 k o0 o1 o2).data=.list ((List.range k).map λj=>lN [o0 (j+3),o1 (j+3),o2 (j+3)]):=by
 unfold V2;simp  [OT.data];rw[aG3 (λj=>cI9 _)]
theorem cM5 (n:Nat)(i0 i1 i2:Nat->AD):(N7 n i0 i1 i2).data=.list ((List.range n).map λq=>.tuple [lN (i0 q),lN (i1 q),lN (i2 q)]):=by
 unfold N7;simp  [OT.data];rw[aG3 (g:=λq=>PyData.tuple [lN (i0 q),lN (i1 q),lN (i2 q)]) (λq=>by simp  [OT.data,OT.datas,cI9])]
theorem cI3 (h:i<m):atI ((fl F m).map PyData.int) (i:Int)=some (.int (F i:Int)):=M6 i rfl (by simp[fl,h])
theorem O5 {α:Type}{f:Nat->α}(h:q<n):((List.range n).map f)[q]? = some (f q):=by simp[h]
theorem j6 {α:Type}{f g:Nat->α}{h:α->α}(s:q<n)(h1:h (f q)=g q)(m:∀j,j≠q->f j=g j):((List.range n).map f).modify q h=(List.range n).map g:=by
 rw[S2 (O5 s),h1];refine List.ext_getElem? λj=>?_
 rw[List.getElem?_set];by_cases e:q=j
 .subst e;simp[s]
 .rw[Ab e];by_cases c:j<n
  .rw[O5 c,O5 c,m j (λz=>e z.symm)]
  .rw[Ad6 (by simp;simp_all),Ad6 (by simp;simp_all)]
section
theorem aJ3 (h:q<n):(N7 n i0 i1 i2).at [q]=some (.tup [oN (i0 q),oN (i1 q),oN (i2 q)]):=by
 show((N7 n i0 i1 i2).kids[q]?).bind _=_
 unfold N7;simp only[OT.kids];rw[O5 h];rfl
theorem dE9 (h:q<n):(N7 n i0 i1 i2).at ([q]++[0])=some (oN (i0 q)):=by rw[aO2 (aJ3 h)];rfl
theorem dG5 (h:q<n):(N7 n i0 i1 i2).at ([q]++[1])=some (oN (i1 q)):=by rw[aO2 (aJ3 h)];rfl
theorem cH6 (h:q<n):(N7 n i0 i1 i2).at ([q]++[2])=some (oN (i2 q)):=by rw[aO2 (aJ3 h)];rfl
theorem dW6 (h:j<k):(V2 k o0 o1 o2).at [j]=some (oN [o0 (j+3),o1 (j+3),o2 (j+3)]):=by
 show((V2 k o0 o1 o2).kids[j]?).bind _=_
 unfold V2;simp only[OT.kids];rw[O5 h];rfl
theorem cY4 (h:q<n)(l:AD):(N7 n i0 i1 i2).put ([q]++[0]) (oN l)=N7 n (TT.put i0 q l) i1 i2:=by
 unfold N7;rw[List.singleton_append,OT.put_lst]
 congr 1
 refine j6 h ?_ λj e=>by simp  [TT.D1 e]
 rw[OT.put_tup,TT.D7];rfl
theorem cT9 (h:q<n)(l:AD):(N7 n i0 i1 i2).put ([q]++[1]) (oN l)=N7 n i0 (TT.put i1 q l) i2:=by
 unfold N7;rw[List.singleton_append,OT.put_lst]
 congr 1
 refine j6 h ?_ λj e=>by simp  [TT.D1 e]
 rw[OT.put_tup,TT.D7];rfl
theorem cR2 (h:q<n)(l:AD):(N7 n i0 i1 i2).put ([q]++[2]) (oN l)=N7 n i0 i1 (TT.put i2 q l):=by
 unfold N7;rw[List.singleton_append,OT.put_lst]
 congr 1
 refine j6 h ?_ λj e=>by simp  [TT.D1 e]
 rw[OT.put_tup,TT.D7];rfl
theorem dF5 (h:j<k)(c:Nat):(V2 k o0 o1 o2).put [j] (oN [o0 (j+3),o1 (j+3),c])=V2 k o0 o1 (TT.put o2 (j+3) c):=by
 unfold V2;rw[OT.put_lst]
 congr 1
 refine j6 h ?_ λi hi=>by simp  [TT.D1 (show i+3≠j+3 by simp[*])]
 rw[OT.put_nil,TT.D7]
theorem bK5 (l:AD)(x:Nat):OT.lst ((l.map λ(x:Nat)=>OT.leaf (.int (x:Int)))++[.leaf (.int (x:Int))])=oN (l++[x]):=by simp[oN]
theorem dB5 (h:q<n)(x:Nat):(N7 n i0 i1 i2).put ([]++[q]++[0]) (.lst (((i0 q).map λ(x:Nat)=>OT.leaf (.int (x:Int)))++[.leaf (.int (x:Int))]))=N7 n (TT.put i0 q (i0 q++[x])) i1 i2:=by
 rw[bK5];exact cY4 h _
theorem cW4 (h:q<n)(x:Nat):(N7 n i0 i1 i2).put ([]++[q]++[1]) (.lst (((i1 q).map λ(x:Nat)=>OT.leaf (.int (x:Int)))++[.leaf (.int (x:Int))]))=N7 n i0 (TT.put i1 q (i1 q++[x])) i2:=by
 rw[bK5];exact cT9 h _
theorem bR9 (h:q<n)(x:Nat):(N7 n i0 i1 i2).put ([]++[q]++[2]) (.lst (((i2 q).map λ(x:Nat)=>OT.leaf (.int (x:Int)))++[.leaf (.int (x:Int))]))=N7 n i0 i1 (TT.put i2 q (i2 q++[x])):=by
 rw[bK5];exact cR2 h _
theorem cH5 {a b:α}:TT.put (TT.put f q a) q b=TT.put f q b:=by
 funext x;by_cases e:x=q
 .rw[e,TT.D7,TT.D7]
 .rw[TT.D1 e,TT.D1 e,TT.D1 e]
theorem dF2:OT.lst (((List.range n).map λq=>OT.tup [oN (i0 q),oN (i1 q),oN (i2 q)])++[.tup [.lst [],.lst [],.lst []]])=N7 (n+1) (TT.put i0 n []) (TT.put i1 n []) (TT.put i2 n []):=by
 unfold N7;rw[Bq,Ad2]
 congr 2
 .refine Bj λa e=>?_
  have:=Ab5.mp e
  rw[TT.D1 zq5,TT.D1 zq5,TT.D1 zq5]
 .simp[TT.D7,oN]
theorem dF1 (a b c:Nat):OT.lst (((List.range k).map λj=>oN [o0 (j+3),o1 (j+3),o2 (j+3)])++[.lst [.leaf (.int (a:Int)),.leaf (.int (b:Int)),.leaf (.int (c:Int))]])=V2 (k+1) (TT.put o0 (k+3) a) (TT.put o1 (k+3) b) (TT.put o2 (k+3) c):=by
 unfold V2;rw[Bq,Ad2]
 congr 2
 .refine Bj λx e=>?_
  have:=Ab5.mp e
  rw[TT.D1 LL,TT.D1 LL,TT.D1 LL]
 .simp[TT.D7,oN]
end
theorem aL2 {f:Nat->PyData}(h:q<n):atI ((List.range n).map f) (q:Int)=some (f q):=M6 q rfl (O5 h)
theorem dC4 {s:TT.S}(e:s.path=p++[0])(j:s.heap=h++[1]):s.row 2=0::(p.reverse++h)++[1]:=by
 rw[TT.aL3,e,j];simp
section
theorem S8 (e:E K false ta ρ (lN l))(j:E K false tb ρ (lN l'))(c:l.length+l'.length<=100000):EF K (tOp (dB3 K) ta tb) ρ (nI (l++l')):=by
 rw[m5];exact aS7 e j (F5 l) (F5 l') (by rw[C9,C9];unfold sizeLine;exact aK6)
theorem cG4 (e:E K false ta ρ (lN l)):EF K (cH2 K ta) ρ (nI l.reverse):=by
 rw[dO5];exact dU8 e (F5 l)
theorem EF.toN (h:EF K t ρ (nI l))(e:l=l'):E K m t ρ (lN l'):=by subst e;exact EF.e' h
end
end LV
namespace LV
open PySem PySem.Spec PyProof.Rows L2
theorem bF4 (l:Addr)(c:AK)(n:Nat)(Q:AL)(sl:Array (Option Value))(x:Value)(e:Value->Bool)(j:Nat)(hj:j<c.size)(F:e c[j]=true)
  (D:∀(m:Nat) (hm:m<c.size),m<j->e c[m]=false) :
  Meets (Builtin.«tuple.index» {pos:=[.ref l,x]}) λA R s=>
   s.heap.get? l=some {cls:=.type "tuple",dict:=Q,data:=.seq c n,slots:=sl}/\(∀y∈c,SeqAt.EqAt A.in1 s y x (e y)) /\
    R (.ok (.ret (.int (j:Int) s.toks))) {s with toks:=s.toks+1}:=by
 intro M w A R s ⟨ho,P,hr⟩;unfold Builtin.«tuple.index»;have e0:selfAndSome "tuple.index" "index" 1 3 {pos:=[.ref l,x]}=pure (.ref l,[x]):=by rfl
 refine Aa (Ae ?_);have ht:=ho;refine Aa (wpAny_tupleItemsOf ht rfl ?_);refine Aa (Ae ?_);refine Aa (Ae ?_);refine Aa ?_;rw[Std.Legacy.Range.forIn_eq_forIn_range'];have hs:([0:min c.size c.size]).size=c.size:=by simp[Std.Legacy.Range.size]
 rw[hs];refine wpAny_forIn_list _ (λY b J=>(∃i,i<=j/\Y=List.range' i (c.size-i) 1)/\b=(none,())/\J=s) _ ?_ ?_ _ _ ⟨⟨0,Br _,rfl⟩,rfl,rfl⟩
 .rintro i Y b J ⟨⟨i',hi,hrest⟩,rfl,rfl⟩;have X:i'<c.size:=cN6;obtain⟨k,B⟩:∃k,c.size-i'=k+1:=⟨c.size-i'-1,LL⟩
  rw[B,List.range'_succ,Bv]at hrest;obtain⟨rfl,rfl⟩:=hrest;rw[Bi X];refine Aa (P _ (Array.getElem_mem X) _ _ _ _ ?_);by_cases U:i=j
  .subst U;rw[Ac F];refine Aa ?_;exact Aa (wpAny_mkInt (Ae (Ae (Ae hr))))
  .rw[D i X bC1,Ab DD]
   exact Ae ⟨⟨i+1,bC1,by rw[show c.size-(i+1)=k by lia]⟩,rfl,rfl⟩
 .rintro b J ⟨⟨i,hi,hr'⟩,rfl,rfl⟩
  have:=congrArg List.length hr'
  simp at this
  lia
section
theorem r9 (K:Frag)(h:X.K=K:=by rfl):MtR X "tuple.index" (λx xs H Q=>∃(p:Addr) (l:AF) (k:Int),x=.ref p/\xs=[.int k]/\SqT K H p (l.map V.int)/\k∈l/\Q (.int (l.idxOf k)) H):=by
 subst h;intro aA s σ H x xs v us Q I rx rv ⟨p,l,k,B,P,hq,hk,q⟩;subst B;subst P;cases rx;obtain⟨u,rfl,t,rfl⟩:=U4 rv;obtain⟨its,r,hT,hz⟩:=I.tuple hq;obtain⟨⟨oc,od,M,R⟩,e,c,n,d⟩:=hT;subst c;subst d;have U:=r.length;rw[Aa3]at U;have Y:=Ax.mpr hk;have at_:∀(j:Nat) (Y:j<its.toArray.size),∃t,its.toArray[j]=Value.int (l[j]'(by simpa[U]using Y)) t:=λj Y=>by
  have J:j<l.length:=by simpa[U]using Y
  obtain⟨u,h1,t,rfl⟩:=r.get (by rw[Aa9,Aa2 J];rfl)
  have:=(Ab0.mp h1).2
  exact⟨t,by simpa using this⟩
 refine call_meets F.slot_tuple_index ⟨_,e,rfl⟩ F.entry_tuple_index (F.args_tuple_index_2 _ _) (bF4 p its.toArray n od R (.int k t) (λy=>match y with | .int i _=>i==k | _=>false) (l.idxOf k) (by simpa[<- U]using Y) ?_ ?_) ⟨e,λy hy=>?_,⟨.int _,H,I.tok _,⟨_,rfl⟩,q⟩⟩
 .obtain⟨D,e'⟩:=at_ (l.idxOf k) (by simpa[<- U]using Y)
  rw[e'];simp
 .intro m hm hlt;obtain⟨D,e'⟩:=at_ m hm;rw[e']
  have:l[m]'(by simpa[U]using hm)≠k:=λz=>by
   have h1:m<l.length:=by simpa[U]using hm
   exact cC3 h1 hlt z
  simpa using this
 .obtain⟨j,Y,rfl⟩:=Array.mem_iff_getElem.mp hy;obtain⟨D,e'⟩:=at_ j Y;rw[e'];exact SeqAt.EqAt.int_int _ _ _ _
theorem aH6 {A:Around}{E:Ed}{lo hi:Option Int}(e:IsTup s.heap t items)(X:s.heap.IsSliceOf sl vl vu .none)(pl:IsPart vl lo)(M:IsPart vu hi)
  (U:HT.sIx items.size 0 lo=0/\HT.sIx items.size items.size hi=items.size) (h:Q (.ref t) s):wpAny (model P w) A (getItem (.ref t) (.ref sl)) Q E s:=by
 obtain⟨os,Y,m,J⟩:=id X;have c:s.TypeIs (.ref sl) "slice" := ⟨os,Y,m⟩;unfold getItem
 try with_reducible refine Cg ?_
 refine Aa (wpAny_sequenceKey e.typeIs DD ?_)
 refine Aa (Cn e.typeIs Bp
  (Cj Bp e.typeIs entry_tuple_getitem ?_ (args_tuple_getitem _ _)))
 show wpAny _ _ (Builtin.Tuple.tupleItemsOf (.ref t) >>= _) _ _ s
 refine Aa (tupleItemsOf_ e ?_);refine Aa (wpAny_typeOf c ?_);refine Aa (HT.p6 X pl M ?_);have j:((((HT.sIx items.size 0 lo):Int)==0&&(1:Int)==1&&(HT.sIx items.size items.size hi-HT.sIx items.size 0 lo)==items.size)=true):=by
  rw[U.1,U.2];simp
 show wpAny _ _ (if(((HT.sIx items.size 0 lo):Int)==0&&(1)==1&&(HT.sIx items.size items.size hi-HT.sIx items.size 0 lo)==items.size)=true then _ else _) _ _ s
 rw[Ac j];refine Aa ?_;refine Aa (wpAny_typeOf e.typeIs (Ae ?_));exact Aa (wpAny_rule (Ae ⟨_,rfl,Ae h⟩))
def eD7 (K:Frag):V->Option Int->Option Int->Hp->VK->Prop:=λx lo hi H Q=>∃a xs,x=.ref a/\SqT K H a xs /\
 (HT.sIx xs.length 0 lo=0/\HT.sIx xs.length xs.length hi=xs.length->Q (.ref a) H) /\
 (¬(HT.sIx xs.length 0 lo=0/\HT.sIx xs.length xs.length hi=xs.length)->∀p,H p=none->Q (.ref p) (upd H p (.tup (bZ2 xs lo hi))))
theorem cU2 (K:Frag)(h:X.K=K:=by rfl):SlR X (eD7 K):=by
 subst h;intro R s σ H x v B P lo hi sl Q I M m pl J h;obtain⟨a,xs,e,U,D,F⟩:=h;by_cases c:HT.sIx xs.length 0 lo=0/\HT.sIx xs.length xs.length hi=xs.length
 .subst e;cases M;obtain⟨its,r,Y,hz⟩:=I.tuple U;have j:its.toArray.size=xs.length:=by exact r.length.symm
  exact⟨"tuple",_,Bp.lookup,Y.typeIs,(aH6 Y m pl J (by rw[j];exact c) ⟨.ref a,H,I,rfl,D c⟩)⟩
 .exact dU4 R s σ H x v B P lo hi sl Q I M m pl J ⟨a,xs,e,U,c,F c⟩
theorem aY2 (K:Frag)(h:X.K=K:=by rfl):OpR X (binaryOp .Add) (cX5 K):=h▸dC6
end
section
variable {K:Frag}{ρ:List Sl}{m:Bool}{t ta tb:TE}{d:PyData}{ds es:AG}
theorem bI7 (h:K5 ds=true):imm (.tuple ds)=true:=by simp[imm,h]
theorem bX3 {lo hi:Option Int}(M:E K false ta ρ (.tuple ds))(D:O K tl ρ lo)(R:O K th ρ hi)(Y:K5 ds=true):E K m (tSl (eD7 K) ta tl th) ρ (.tuple (aD6 ds lo hi)):=
 E.bor (E.imm (m:=false) (λS B σ H o I Q q=>M S B σ H o I _ λx H1 s F=>D S B σ H1 o (I.grow s) _ λJ U=>R S B σ J o ((I.grow s).grow U) _ λH3 P=>by
  cases F with
  | @tup a xs _ sa ra=>
  have j:=L2.Same.tr U P
  have c:=ra.length
  refine⟨a,xs,rfl,F7 j sa,λX=>q _ _ (L2.Same.tr s j) ?_,λ_ p hp=>q _ _ (L2.Same.tr s (L2.Same.tr j (D9 hp))) (.tup (SqT.of C7) (((ra.mono j).cut lo hi).mono (D9 hp)))⟩
  have e:aD6 ds lo hi=ds:=by
   unfold aD6;rw[<- c,X.1,X.2,c]
   simp
  rw[e];exact .tup (F7 j sa) (ra.mono j)) (bI7 (W1 lo hi Y)))
theorem bZ1 (Y:E K false ta ρ (.tuple ds))(X:E K false tb ρ (.tuple es))(hi:K5 ds=true)(c:K5 es=true)(J:ds≠[])(U:ds.length+es.length<=sizeLine:=by first | decide | (unfold sizeLine;simp;done)):E K m (tOp (cX5 K) ta tb) ρ (.tuple (ds++es)):=
 E.bor (E.imm (m:=false) (λS B σ H o I Q q=>Y S B σ H o I _ λx H1 s M=>X S B σ H1 o (I.grow s) _ λy D j R=>by
  cases M with
  | @tup a xs _ sa ra=>
  cases R with
  | @tup b ys _ sb rb=>
  have e:=ra.mono j
  refine⟨a,b,xs,ys,rfl,rfl,F7 j sa,sb,λz=>J (by cases z;cases ra;rfl),by rw[ra.length,rb.length];exact U,λz=>q _ _ (L2.Same.tr s j) ?_,λ_ p hp=>q _ _ (L2.Same.tr s (L2.Same.tr j (D9 hp))) (.tup (SqT.of C7) ((e.append rb).mono (D9 hp)))⟩
  cases z
  cases rb
  rw[Bf];exact .tup (F7 j sa) e) (bI7 (by rw[aC9,hi,c];rfl)))
theorem bM0 (r:Rep K H p (tI l)):∃a,p=.ref a/\SqT K H a (l.map V.int):=by
 cases r with
 | @tup a xs _ s r=>exact⟨a,rfl,by rw[<- r.ints];exact s⟩
theorem aO8 (Y:E K false ta ρ (tI l))(X:E K false tb ρ (.int k))(U:k∈l) :
  E K m (tBM K "tuple" (λx xs H Q=>∃(p:Addr) (l:AF) (k:Int),x=.ref p/\xs=[.int k]/\SqT K H p (l.map V.int)/\k∈l/\Q (.int (l.idxOf k)) H) ta (E8 tb R3)) ρ (.int (l.idxOf k)):=E.bor (E.imm (m:=false) λS B σ H o I Q q=>Y S B σ H o I _ λv H1 e r=>by
 obtain⟨p,rfl,s⟩:=bM0 r;refine⟨.inr (.inl ⟨rfl,_,s⟩),?_⟩;refine X S B σ H1 o (I.grow e) _ λu c j J=>?_
 cases J
 exact⟨p,l,k,rfl,rfl,F7 j s,U,q _ c (L2.Same.tr e j) (.int _)⟩)
theorem aG0 (hi:ρ[i]? = some (.own ds))(h:EF K t ρ es)(Y:ds.length+es.length<=sizeLine)(X:R.nx (ρ.set i (.own (ds++es))))(nb:O7 ρ=true:=by rfl) :
  W K (bK0 (tBM K "list" cH3 (F6 i) (E8 t R3))) ρ R:=λS B D σ H o I s=>by
 obtain⟨p,hp,a,xs,b,c⟩:=I.own i ds hi;refine⟨_,a,.inl ⟨rfl,xs,SqL.of b⟩,?_⟩;refine h S B σ H o I _ λq U J j n e r=>?_
 exact⟨_,_,xs,U,rfl,rfl,j _ _ b,e,by rw[c.length,r.length];exact Y,(s.nx _ σ _ _ ((I.grow j).upd hi hp ((c.mono (K7 j)).append (r.mono (E5 (L2.Same.rf _) λb z _=>.inl z))) (K6 nb)) X)⟩
end
section
theorem cL7 (h:IntsAre vs ns):Vals (ns.map V.int) vs:=by
 induction h with
 | nil=>exact .nil
 | cons n t _ e=>exact .cons ⟨t,rfl⟩ e
end
end LV
namespace L2
open PySem PySem.Spec PyProof.Rows
section
theorem Inv.turnedL {fp:AM}(I:Inv X aA σ H s)(k:∀b o,b∉fp->s.heap.get? b=some o->h'.get? b=some o)(U:∀b∈fp,aY9 X aA H b):Inv X aA σ H {s with heap:=h',toks:=t'}:=by
 have Y:∀b u,H b=some u->b∉fp:=λb u e z=>by rw[(U b z).1]at e;cases e
 refine I.step (λb D=>?_) (λb o _ _ j e _=>k b o j e) (λb o _ _ j e _=>⟨o.slots,k b o j e⟩) (λ_ _ _ _ n=>n)
  (λb o j e=>⟨o,k b o j e⟩) (λ_ _ e=>e) (λ_ _ _ e=>e) (λb ps e=>⟨#[],by rw[e];simp⟩) (λm F=>?_) (λb u e=>?_) I.bare
 .obtain⟨_,f1,_,f3,R,Q⟩:=U b D;exact⟨f3,f1,R,Q⟩
 .obtain⟨o,M,J,ho,r⟩:=F;exact⟨o,M,J,k _ o (λz=>(U _ z).2.1 rfl) ho,r⟩
 .refine(I.hok b u e).stay (λc v j q=>k c v ?_ q) (λ_ q=>q) λ_ _ q=>q
  rcases j with z | z
  .rw[z];exact Y b u e
  .exact Y c _ z
theorem Inv.turnedLaid {fp:AM}{T:Addr}(I:Inv X aA σ H s)(k:∀b o,b∉fp->s.heap.get? b=some o->h'.get? b=some o)(M:∀b∈fp,aY9 X aA H b)(Q:s.heap.objs.size<=T)
  (R:ObjOk X.prog X.w (upd H T ob) h' T ob):Inv X aA σ (upd H T ob) {s with heap:=h',toks:=t'}:=by
 have U:∀b u,H b=some u->b∉fp:=λb u e z=>by rw[(M b z).1]at e;cases e
 have D:=I.hok.fresh Q
 have nT:∀b o,s.heap.get? b=some o->b≠T:=λb o e z=>by have h1:=Ab3 e;rw[z]at h1;exact absurd (Ab8 h1 Q) (Ad9 _)
 have Y:∀b u,H b=some u->b≠T:=λb u e z=>by rw[z,D]at e;cases e
 refine I.step (λb J=>?_) (λb o _ _ j e _=>k b o j e) (λb o _ _ j e _=>⟨o.slots,k b o j e⟩) (λb o _ e n=>by rw[C1 (nT b o e)];exact n)
  (λb o j e=>⟨o,k b o j e⟩) (λb _ e=>by rw[C1 (Y b _ e)];exact e) (λb _ _ e=>by rw[C1 (Y b _ e)];exact e) (λb ps e=>⟨#[],by rw[C1 (Y b _ e),e];simp⟩) (λm hm=>?_) (λb u e=>?_) I.bare
 .obtain⟨_,f1,_,f3,P,f5⟩:=M b J;exact⟨f3,f1,P,f5⟩
 .obtain⟨o,B,F,ho,r⟩:=hm;exact⟨o,B,F,k _ o (λz=>(M _ z).2.1 rfl) ho,r⟩
 .by_cases J:b=T
  .subst J;rw[C7]at e;cases e;exact R
  rw[C1 J]at e;refine(I.hok b u e).stay (λc v j q=>k c v ?_ q) (λc q=>by rw[C1 (Y c _ q)];exact q) λc _ q=>by rw[C1 (Y c _ q)];exact q
  rcases j with z | z
  .rw[z];exact U b u e
  .exact U c _ z
end
end L2
namespace LV
open PySem PySem.Spec PyProof.Rows L2
section
variable {K:Frag}{ρ:List Sl}{m:Bool}{t ta tb:TE}{d d':PyData}{ds es:AG}
def enD (ds:AG):AG:=ds.mapIdx λi d=>.tuple [.int (i:Int),d]
theorem cH0:(enD ds).length=ds.length:=by simp[enD]
theorem bQ0 {i:Nat}(h:(enD ds)[i]? = some d):∃y,ds[i]? = some y/\d=.tuple [.int (i:Int),y]:=by
 unfold enD at h;rw[List.getElem?_mapIdx]at h;obtain⟨y,h1,e⟩:=Ay.mp h;exact⟨y,h1,e.symm⟩
end
section
theorem cM0 (K:Frag)(h:X.K=K:=by rfl):MtR X "list.count" (λx xs H Q=>∃(p:Addr) (l:AF) (k:Int),x=.ref p/\xs=[.int k]/\SqL K H p (l.map V.int)/\Q (.int (l.count k)) H):=by
 subst h;intro aA s σ H x xs v us Q I rx rv ⟨p,l,k,D,B,M,q⟩;subst D;subst B;cases rx;obtain⟨u,rfl,t,rfl⟩:=U4 rv;obtain⟨its,r,⟨o,n,e,c,R,d⟩,hz⟩:=I.list M;obtain⟨oc,od,U,J⟩:=o;subst c;subst R;subst d;have hi:∀y∈its,∃i t,y=Value.int i t:=λy Y=>by
  obtain⟨j,P,rfl⟩:=List.mem_iff_getElem.mp Y;have hl:=r.length;rw[Aa3]at hl;obtain⟨u,h1,t,rfl⟩:=r.get (i:=j) (by rw[Aa9,Aa2 XX];rfl)
  rw[Aa2 P]at h1;exact⟨_,_,Ab4 h1⟩
 have m:its.countP (λy=>match y with | .int i _=>i==k | _=>false)=l.count k:=by
  have ri:=N9 r
  clear M hz e r hi q
  induction ri with
  | nil=>rfl
  | cons n t _ ih=>rw[List.countP_cons,List.count_cons,ih]
 refine call_meets F.slot_list_count ⟨_,e,rfl⟩ F.entry_list_count (F.args_list_count_2 _ _) (SeqAt.list_countAt p its.toArray n none J (.int k t) (λy=>match y with | .int i _=>i==k | _=>false)) ⟨e,λy Y=>?_,?_⟩
 .obtain⟨i,t',rfl⟩:=hi y (by simpa using Y)
  exact SeqAt.EqAt.int_int _ _ _ _
 .rw[show List.countP _ its.toArray.toList=l.count k from m]
  exact⟨.int _,H,I.tok _,⟨_,rfl⟩,q⟩
end
section
variable {K:Frag}{ρ:List Sl}{m:Bool}{t ta tb:TE}{d d':PyData}{ds es:AG}
theorem cY7 (Y:E K false ta ρ (lI l))(X:E K false tb ρ (.int k)) :
  E K m (tBM K "list" (λx xs H Q=>∃(p:Addr) (l:AF) (k:Int),x=.ref p/\xs=[.int k]/\SqL K H p (l.map V.int)/\Q (.int (l.count k)) H) ta (E8 tb R3)) ρ (.int (l.count k)):=E.bor (E.imm (m:=false) λS B σ H o I Q q=>Y S B σ H o I _ λv H1 e r=>by
 obtain⟨p,rfl,s⟩:=bN0 r;refine⟨.inl ⟨rfl,_,s⟩,?_⟩;refine X S B σ H1 o (I.grow e) _ λu c j U=>?_
 cases U
 exact⟨p,l,k,rfl,rfl,O6 j s,q _ c (L2.Same.tr e j) (.int _)⟩)
end
end LV
namespace L2
open PySem PySem.Spec PyProof.Rows
section
theorem bG2 (e:s.heap.get? a=some o)(d:o.data=.seq items n)(h:Q (some items) s):wpAny M A (seqItems? (.ref a)) Q E s:=by
 refine Aa (wpAny_load e ?_);rw[d];exact Ae h
theorem aL0 (m:s.heap.IsTupleIter it t i)(U:s.heap.IsTuple t items)(J:items[i]? = some x)
  (h:∀h':Heap,h'.IsTupleIter it t (i+1)->Heap.SameBut it s.heap h'->Q x {s with heap:=h'}):wpAny (model prog w) A (Builtin.SmallTypes.nextOf (.ref it)) Q E s:=by
 refine Aa (Cn m.typeIs slot_tupleiter_next (Cj slot_tupleiter_next m.typeIs entry_tupleiter_next ?_ (args_tupleiter_next _)));obtain⟨o,e,c,d⟩:=id m;obtain⟨B,X,R,n,Y⟩:=U;have D:slotArgs "__next__" 0 {pos:=[.ref it]}=pure (.ref it,[]):=rfl;refine Aa ?_;refine Ae ?_;refine Aa (wpAny_field e d rfl ?_);refine Aa (wpAny_field e d rfl ?_);refine Aa (bG2 X Y ?_);show wpAny _ _ (match items[(i:Int).toNat]? with | some x=>_ | none=>_) _ _ _
 rw[Ac8,J];refine Aa (wpAny_setField e d SS ?_)
 obtain⟨oc,F,j,M⟩:=o;subst c;subst d;exact Ae ⟨x,rfl,Ae (h _ ⟨_,Dd _ e rfl,rfl,rfl⟩ (Dy _ _ _))⟩
theorem eF3 (j:A.handled=none)(h:∀(h':Heap) (e:Addr),(∀b o,s.heap.get? b=some o->h'.get? b=some o)->(∃o,h'.get? e=some o/\o.cls=.type "StopIteration")->E (.ref e) {s with heap:=h'}) :
  wpAny M A (Builtin.SmallTypes.stopIteration (α := α)) Q E s:=by
 refine Aa ?_;refine Aa (wpAny_newTuple ?_ (by exact Br _))
 have c:firstArgMember (.type "StopIteration") []=pure .none:=by
  cases (Manifest.find? "StopIteration").elim false λt=>t.mro.contains "StopIteration" || t.mro.contains "SystemExit" <;> rfl
 refine Aa (Ae ?_);refine Cb ?_ (by show(6)<=sizeLine+2;decide)
 refine wpAny_raiseNew_none j (h _ _ (λb o q=>Aa6 _ (Aa6 _ q)) ⟨_,Ac3 _ rfl,rfl⟩)
theorem aQ9 (M:A.handled=none)(j:s.heap.IsTupleIter it t i)(R:s.heap.IsTuple t items)(D:items[i]? = none)
  (h:∀(h':Heap) (e:Addr),Heap.ExtBut it s.heap h'->(∃o,h'.get? e=some o/\o.cls=.type "StopIteration")->E (.ref e) {s with heap:=h'}):wpAny (model prog w) A (Builtin.SmallTypes.nextOf (.ref it)) Q E s:=by
 refine Aa (Cn j.typeIs slot_tupleiter_next (Cj slot_tupleiter_next j.typeIs entry_tupleiter_next ?_ (args_tupleiter_next _)));obtain⟨o,e,c,d⟩:=id j;obtain⟨P,X,F,n,Y⟩:=R;have B:slotArgs "__next__" 0 {pos:=[.ref it]}=pure (.ref it,[]):=rfl;refine Aa ?_;refine Ae ?_;refine Aa (wpAny_field e d rfl ?_);refine Aa (wpAny_field e d rfl ?_);refine Aa (bG2 X Y ?_);show wpAny _ _ (match items[(i:Int).toNat]? with | some x=>_ | none=>_) _ _ _
 rw[Ac8,D];exact Aa (m:=setField (.ref it) 0 .none) (wpAny_setField e d SS (eF3 M λh' U kp N=>h h' U (λb o J q=>kp b o (by rw[Heap.get?_update_ne _ _ _ _ J];exact q)) N))
theorem aR8 (t:Addr)(X:AK):Meets (Builtin.«enumerate.__new__» {pos:=[.type "enumerate",.ref t]}) λx R s=>
  s.heap.IsTuple t X/\R (.ok (.ret (.ref (s.heap.push {cls:=.type "tuple_iterator",data:=.fields #[.ref t,.int 0 0]}).objs.size)))
   {s with heap:=(s.heap.push {cls:=.type "tuple_iterator",data:=.fields #[.ref t,.int 0 0]}).push {cls:=.type "enumerate",data:=.fields #[.none,.bool false,.ref s.heap.objs.size,rawInt 0,.none,.none]}}:=by
 intro j w A R s ⟨Q,M⟩;unfold Builtin.«enumerate.__new__»;have D:Builtin.SmallTypes.newClass "enumerate" {pos:=[.type "enumerate",.ref t]}=pure (.type "enumerate",[.ref t]):=by
  show(pure true >>= _)=_
  rfl
 refine Aa (Ae ?_);refine Aa ?_;refine Aa (wpAny_stack λF _ _ _=>Ae ?_)
 have fin:wpAny (model j w) A.in1 (do
   let it <- pyIter (.ref t)
   let r <- Builtin.SmallTypes.newRecord (.type "enumerate") (Builtin.SmallTypes.ownedTupleFields++[it,rawInt 0,.none,.none])
   ret r) (λfin c=>match fin with | .done f=>R (.ok f) c | .again Y=>Y.quiet=true/\codeAny (model j w) A Y R c) (λe c=>R (.error e) c) s:=by
  refine Aa (wpAny_pyIter_tuple Q ?_);refine Aa ?_;unfold Builtin.SmallTypes.newRecord;exact Cb (Ae M) (by show(6)<=sizeLine+2;decide)
 have U:∀(m:Bool) (C N:Sem PySem.Fin),wpAny (model j w) A.in1 C (λfin c=>match fin with | .done f=>R (.ok f) c | .again Y=>Y.quiet=true/\codeAny (model j w) A Y R c) (λe c=>R (.error e) c) s->wpAny (model j w) A.in1 N (λfin c=>match fin with | .done f=>R (.ok f) c | .again Y=>Y.quiet=true/\codeAny (model j w) A Y R c) (λe c=>R (.error e) c) s->wpAny (model j w) A.in1 (if m=true then C else N) (λfin c=>match fin with | .done f=>R (.ok f) c | .again Y=>Y.quiet=true/\codeAny (model j w) A Y R c) (λe c=>R (.error e) c) s:=λm C N h1 J=>by
  cases m
  .exact J
  .exact h1
 refine U _ _ _ ?_ ?_
 .exact Aa (Ae fin)
 .exact Aa (Ae fin)
theorem aE4 (c:s.heap.IsTuple t items)
  (h:∀h':Heap,IsEnum h' (s.heap.objs.size+1) s.heap.objs.size 0 .none->h'.IsTupleIter s.heap.objs.size t 0->(∀b o,s.heap.get? b=some o->h'.get? b=some o)->Q (.ref (s.heap.objs.size+1)) {s with heap:=h'}) :
  wpAny (model prog w) A (call (.type "enumerate") [.ref t]) Q E s:=by
 have e:(s.heap.push {cls:=.type "tuple_iterator",data:=.fields #[.ref t,.int 0 0]}).objs.size=s.heap.objs.size+1:=by simp[Heap.push]
 refine callType_new F.called_enumerate DD (F.typeCall_enumerate_1 _) (F.newCall_enumerate_1 _) (λm=>F.args_object_init_2 _ _) F.entry_enumerate_new (aR8 t items) ⟨c,?_⟩
 rw[e];have j:((s.heap.push {cls:=.type "tuple_iterator",data:=.fields #[.ref t,.int 0 0]}).push {cls:=.type "enumerate",data:=.fields #[.none,.bool false,.ref s.heap.objs.size,rawInt 0,.none,.none]}).get? (s.heap.objs.size+1)=some {cls:=.type "enumerate",data:=.fields #[.none,.bool false,.ref s.heap.objs.size,rawInt 0,.none,.none]}:=by
  have:=Ac3 (h:=s.heap.push {cls:=.type "tuple_iterator",data:=.fields #[.ref t,.int 0 0]}) (o:={cls:=.type "enumerate",data:=.fields #[.none,.bool false,.ref s.heap.objs.size,rawInt 0,.none,.none]}) rfl
  rw[e]at this;exact this
 exact⟨⟨_,j,rfl⟩,h _ j ⟨_,Aa6 _ (Ac3 _ rfl),rfl,rfl⟩ λb o q=>Aa6 _ (Aa6 _ q)⟩
end
theorem tuple_inj {σ:St}(I:Inv X aA σ H s)(h:SqT X.K H a xs)(Y:SqT X.K H a ys):xs=ys:=by
 obtain⟨its,r,⟨o,e,_,n,d⟩,_⟩:=I.tuple h;obtain⟨j,U,⟨M,e',_,J,c⟩,_⟩:=I.tuple Y;rw[e]at e';cases e';rw[d]at c
 injection c with m _
 have:its=j:=by simpa using congrArg Array.toList m
 subst this;exact r.inj U
end L2
namespace LV
open PySem PySem.Spec PyProof.Rows L2
section
variable {K:Frag}{ρ ρ':List Sl}{m:Bool}{t ta tb:TE}{d d':PyData}{ds es:AG}
def spX (K:Frag)(pre:AG->(PyData->Prop)->Prop):Sp:=λvs H Q _=>∃(ds:AG) (S:Addr->Prop) (post:PyData->Prop),(∀b,S b->∃u:HM,H b=some u.ho)/\Reps K (hid S H) vs ds/\pre ds post /\
 ∀d v H',post d->Same H H'->Rep K (hid S H') v d->Q v H'
theorem cT1 {t:TS}(c:∀b,S b->∃u:HM,H b=some u.ho)(r:Reps K (hid S H) vs ds)(w:W K t (sl0 N.length ds) {nx:=λ_=>post .none,rt:=post})
  (k:∀d v H',post d->Same H H'->Rep K (hid S H') v d->Q v H'):t {nx:=λ_ H'=>Q .non H',rt:=Q} (L2.Y6 N vs) H:=
 w S H _ _ H _ (env0 c r) ⟨λρ' U H' X j z=>k _ _ H' z j.base .non,λv e H' s Y z=>k e v H' z s Y,λ_ _ _ _ _ _ _ _ z=>z.elim,λ_ _ _ _ _ z=>z.elim,λ_ _ _ _ _ z=>z.elim⟩
theorem cX9 {t:TA}(Y:A K true t ρ ds)(hp:pre ds post)(U:∀d,post d->R.nx (ρ.set i (.val d))):W K (aT8 (o6 (spX K pre) [] X t) (F4 i)) ρ R:=λS B D σ H o I s=>
 Y S B σ H o I _ λvs H1 j rs=>⟨ds,E3 ρ o S,post,(I.grow j).lists,by rw[Bf];exact rs,hp,λd v e z J r=>(B6 (m:=true)).2 S B σ e o (I.grow (L2.Same.tr j J)) v r _ λM c=>s.nx _ M e o c (U d z)⟩
theorem eE3 (h:∀ds d,pre ds d->ds.length=n):∀vs H Q E,spX K pre vs H Q E->vs.length=n:=by
 rintro vs H Q E ⟨ds,S,d,_,r,p,_⟩;have e:=r.length;rw[e];exact h ds d p
end
end LV
namespace L2
open PySem PySem.Spec PyProof.Rows
def Sqh (κ:Bool)(h:Heap)(l:Addr)(xs:AK):Prop:=match κ with | true=>h.IsList l xs | false=>h.IsTuple l xs
def Iqh (κ:Bool)(h:Heap)(i l:Addr)(k:Nat):Prop:=match κ with | true=>h.IsListIter i l k | false=>h.IsTupleIter i l k
abbrev qn (κ:Bool):String:=match κ with | true => "list_iterator" | false => "tuple_iterator"
def SqK (κ:Bool)(K:Frag)(H:Hp)(a:Addr)(xs:List V):Prop:=match κ with | true=>SqL K H a xs | false=>SqT K H a xs
section
theorem Sqh.same (H:Sqh κ h l xs)(k:∀o,h.get? l=some o->h'.get? l=some o):Sqh κ h' l xs:=by cases κ <;> (obtain⟨o,e,r⟩:=H;exact⟨o,k o e,r⟩)
theorem Iqh.at (x:Iqh κ h i l k)(e:∀o,h.get? i=some o->h'.get? i=some o):Iqh κ h' i l k:=by cases κ <;> (obtain⟨o,ho,r⟩:=x;exact⟨o,e _ ho,r⟩)
theorem Iqh.ob (x:Iqh κ h i l k):∃o d,h.get? i=some o/\o.data=.fields d:=by cases κ <;> (obtain⟨o,ho,_,r⟩:=x;exact⟨o,_,ho,r⟩)
theorem Inv.seqq {σ:St}{xs:List V}(I:Inv X aA σ H s)(h:SqK κ X.K H a xs):∃its:AH,Vals xs its/\Sqh κ s.heap a its.toArray:=by
 cases κ
 .obtain⟨its,r,p,_⟩:=I.tuple h;exact⟨its,r,p⟩
 .obtain⟨its,r,p,_⟩:=I.list h;exact⟨its,r,p.isList⟩
theorem cP3 {σ:St}{xs ys:List V}(I:Inv X aA σ H s)(h:SqK κ X.K H a xs)(e:SqK κ X.K H a ys):xs=ys:=by
 cases κ
 .exact tuple_inj I h e
 .exact I.list_inj h e
end
section
theorem cB6 (c:Iqh κ s.heap it t i)(e:Sqh κ s.heap t items)(j:items[i]? = some x)(h:∀h':Heap,Iqh κ h' it t (i+1)->Heap.SameBut it s.heap h'->Q x {s with heap:=h'}):wpAny (model prog w) A (Builtin.SmallTypes.nextOf (.ref it)) Q E s:=by
 cases κ
 .exact aL0 c e j h
 .exact wpAny_nextOf_list_item c e j h
theorem bI4 (j:A.handled=none)(Y:Iqh κ s.heap it t i)(c:Sqh κ s.heap t items)(m:items[i]? = none)(h:∀(h':Heap) (e:Addr),Heap.ExtBut it s.heap h'->(∃o,h'.get? e=some o/\o.cls=.type "StopIteration")->E (.ref e) {s with heap:=h'}):wpAny (model prog w) A (Builtin.SmallTypes.nextOf (.ref it)) Q E s:=by
 cases κ
 .exact aQ9 j Y c m h
 .exact wpAny_nextOf_list_end j Y c m h
end
section
theorem bV5 {l b:Addr}{h h':Heap}(H:h.IsTuple l xs)(k:∀o,h.get? l=some o->h'.get? l=some o):h'.IsTuple l xs:=by
 obtain⟨o,e,r⟩:=H;exact⟨o,k o e,r⟩
abbrev zT1 (κ:Bool)(h:Heap)(l1:Addr):Heap:=h.push {cls:=.type (qn κ),data:=.fields #[.ref l1,.int 0 0]}
abbrev zT2 (κ:Bool)(h:Heap)(l1 l2:Addr):Heap:=(zT1 κ h l1).push {cls:=.type "tuple_iterator",data:=.fields #[.ref l2,.int 0 0]}
abbrev zT3 (κ:Bool)(h:Heap)(l1 l2:Addr):Heap:=(zT2 κ h l1 l2).push {cls:=.type "tuple",data:=.seq #[.ref h.objs.size,.ref (zT1 κ h l1).objs.size]}
abbrev zT4 (κ:Bool)(h:Heap)(l1 l2:Addr):Heap:=(zT3 κ h l1 l2).push {cls:=.type "tuple",data:=.seq #[.none,.none]}
abbrev zT5 (κ:Bool)(h:Heap)(l1 l2:Addr):Heap:=(zT4 κ h l1 l2).push {cls:=.type "zip",data:=.fields #[.none,.bool false,.bool false,.ref (zT2 κ h l1 l2).objs.size,.ref (zT3 κ h l1 l2).objs.size]}
end
end L2
namespace LV
open PySem PySem.Spec PyProof.Rows L2
section
variable {K:Frag}{ρ:List Sl}{m:Bool}{t ta tb:TE}{d d':PyData}{ds es:AG}
theorem aQ0 (h:Same H H')(s:SqK κ K H a xs):SqK κ K H' a xs:=by
 cases κ
 .exact F7 h s
 .exact O6 h s
def dq (κ:Bool)(ds:AG):PyData:=match κ with | true=>.list ds | false=>.tuple ds
theorem dO9 (r:Rep K H v (dq κ ds)):∃a xs,v=.ref a/\SqK κ K H a xs/\Reps K H xs ds:=by
 cases κ <;> (cases r;exact⟨_,_,rfl,‹_›,‹_›⟩)
end
end LV
namespace L2
open PySem PySem.Spec PyProof.Rows
section
theorem Sqh.ne (H:Sqh κ h a xs)(q:h.get? e=some o)(c:o.cls=.type n)(h1:n≠"list")(m:n≠"tuple"):a≠e:=by
 rintro rfl;cases κ <;> (obtain⟨Y,s,j,_⟩:=H;rw[q]at s;cases s;rw[c]at j;injection j with j)
 .exact m j
 .exact h1 j
theorem Iqh.obc (x:Iqh κ h i l k):∃o,h.get? i=some o/\o.cls=.type (qn κ):=by cases κ <;> (obtain⟨o,ho,c,r⟩:=x;exact⟨o,ho,c⟩)
theorem dE1 (M:A.handled=none)(it t:Addr)(m:t≠it)(j:AK):Draws prog w A it [it,t] j.size (λi v=>j[i]? = some v) λi h=>Iqh κ h it t i/\Sqh κ h t j where
 live:=λi h c=>by obtain⟨o,_,e,_⟩:=c.1.ob;exact⟨_,e⟩
 frame:=λi h X c k=>⟨c.1.at λo e=>k it SS o e,c.2.same λo e=>k t SS o e⟩
 item:=λi s Q E hi c h=>by
  have U:j[i]? = some j[i]:=Bi hi
  exact cB6 c.1 c.2 U λX Y J=>h _ X s.toks U ⟨Y,c.2.same λo e=>by rw[J.2 t m];exact e⟩ J
 done:=λs Q E c h=>bI4 M c.1 c.2 SS h
theorem cQ6 (e:Sqh κ s.heap t items)
  (h:∀h':Heap,IsEnum h' (s.heap.objs.size+1) s.heap.objs.size 0 .none->Iqh κ h' s.heap.objs.size t 0->(∀b o,s.heap.get? b=some o->h'.get? b=some o)->Q (.ref (s.heap.objs.size+1)) {s with heap:=h'}):wpAny (model prog w) A (call (.type "enumerate") [.ref t]) Q E s:=by
 cases κ
 .exact aE4 e h
 .exact call_enumerate_list e λh' a b _ d=>h h' a b d
end
def Ieq (κ:Bool)(K:Frag)(a:Addr):It:=
 ⟨λi H=>∃xs x,SqK κ K H a xs/\xs[i]? = some x,λi H x H'=>∃T y,x=.ref T/\H T=none/\H'=upd H T (.tup [.int (i:Int),y])/\∀xs,SqK κ K H a xs->xs[i]? = some y,λi H=>∃xs,SqK κ K H a xs/\xs.length<=i⟩
theorem cD3 (κ:Bool){K:Frag}(a e it:Addr)(U:e≠it):cB9 P w K (.Tuple elts k pos) (Ieq κ K a) [e,it] e (λi h=>(∃old,IsEnum h e it (i:Int) old)/\Iqh κ h it a i) where
 mem:=by simp
 obj:=λi h c b hb=>by
  obtain⟨⟨old,Y⟩,hi⟩:=c;obtain⟨o,_,e1,d⟩:=hi.ob;rcases Aa1.mp hb with rfl | hb
  .exact⟨_,Y,λv z=>by cases z⟩
  .have M:b=it:=by simpa using hb
   subst M;exact⟨o,e1,λv z=>by rw[d]at z;cases z⟩
 keep:=λi h m c k=>⟨⟨c.1.choose,k e SS _ c.1.choose_spec⟩,c.2.at λo q=>k it SS o q⟩
 item:=by
  intro X hP hw hK hc i aA s σ H E I R c hg;subst hP hw hK;obtain⟨⟨old,Y⟩,hi⟩:=c;obtain⟨xs,x,D,hx⟩:=hg;obtain⟨its,rv,p⟩:=I.seqq D;obtain⟨u,hu,ru⟩:=rv.get hx;have ea:a≠e:=p.ne Y rfl DD DD
  obtain⟨oi,ei,ci⟩:=hi.obc;have B:a≠it:=p.ne ei ci (by cases κ <;> decide) (by cases κ <;> decide)
  have hlt:i<its.toArray.size:=by have:=(Ab0.mp hu).1;simpa using this
  refine wpAny_pyNext_enum_itemD (dE1 (A:=X.A.in1) (I.ok.hd hc) it a B its.toArray) Y ⟨hi,p⟩ hlt U (by simp[U,Ne.symm ea]) λy m tk F ho hst hT hs kp=>?_
  have ey:y=u:=by
   have h1:its.toArray[i]? = some u:=by simpa using hu
   rw[h1]at F;exact(Ab4 F).symm
  subst ey;obtain⟨hi',p'⟩:=hst;refine⟨_,rfl,?_⟩;have Te:s.heap.objs.size≠e:=λz=>by have h1:=Ab3 Y;rw[z]at h1;exact Ad9 _ h1
  have Ti:s.heap.objs.size≠it:=λz=>by have h1:=Ab3 ei;rw[z]at h1;exact Ad9 _ h1
  unfold letOwnedTupleGo;refine Aa (wpAny_load ho ?_);dsimp only;rw[Ac (by simp[rawInt])]
  refine Aa (wpAny_rule ?_);unfold updateField;refine Aa (wpAny_load ho ?_);dsimp only;rw[Ac SS]
  refine wpAny_update ho ?_;have he2:(m.update e (Obj.mapFields λx=>x.setIfInBounds 0 .none)).get? e=some {cls:=.type "enumerate",data:=.fields #[.none,.bool false,.ref it,rawInt ((i:Int)+1),.none,y]}:=Dd (h:=m) (o:={cls:=.type "enumerate",data:=.fields #[rawInt (s.heap.objs.size:Int),.bool false,.ref it,rawInt ((i:Int)+1),.none,y]}) (λo=>Obj.mapFields (λx=>x.setIfInBounds 0 .none) o) ho rfl
  have J:∀b o,b≠e->m.get? b=some o->(m.update e (Obj.mapFields λx=>x.setIfInBounds 0 .none)).get? b=some o:=λb o hb q=>by rw[Heap.get?_update_ne _ _ _ _ hb];exact q
  have hT2:=J s.heap.objs.size _ Te hT
  refine⟨.ref s.heap.objs.size,upd H s.heap.objs.size (.tup [.int (i:Int),x]),?_,rfl,⟨_,x,rfl,I.hok.fresh (Aa7 _),rfl,λys F=>by rw[cP3 I F D];exact hx⟩,⟨⟨y,by rw[show((i+1:Nat):Int)=(i:Int)+1 by rfl];exact he2⟩,hi'.at λo q=>J it o (Ne.symm U) q⟩,λb hb=>?_⟩
  .refine I.turnedLaid (t':=tk+1) (fp:=[e,it]) (λb o hb q=>J b o (λz=>hb (by simp[z])) (kp b o (λz=>hb (by simp[z])) (λz=>hb (by simp[z])) q)) R (Aa7 _) ?_
   exact⟨by show 2<=sizeLine;decide,[.int (i:Int) tk,y],.cons ⟨_,rfl⟩ (.cons ru .nil),⟨_,hT2,rfl,⟨_,rfl⟩,rfl⟩⟩
  .rw[C1]
   .exact(R b hb).1
   .rcases Aa1.mp hb with rfl | hb
    .exact Ne.symm Te
    .have M:b=it:=by simpa using hb
     subst M;exact Ne.symm Ti
 done:=by
  intro X hP hw hK hc i aA s σ H E I R c hg;subst hP hw hK;obtain⟨⟨old,Y⟩,hi⟩:=c;obtain⟨xs,D,hx⟩:=hg;obtain⟨its,rv,p⟩:=I.seqq D;have hl:=rv.length;have hD:Draws X.prog X.w X.A.in1 it [it,a] i (λ_ _=>False) (λj h=>j=i/\Iqh κ h it a i/\Sqh κ h a its.toArray):=⟨λj h c=>by obtain⟨o,_,e,_⟩:=c.2.1.ob;exact⟨_,e⟩,λj h m c k=>⟨c.1,c.2.1.at λo e=>k it SS o e,c.2.2.same λo e=>k a SS o e⟩,λj s Q E hj c _=>absurd c.1 (Ab9 hj),λs Q E c h=>bI4 (I.ok.hd hc) c.2.1 c.2.2 (by simp;simp_all) h⟩
  exact wpAny_pyNext_enum_endD hD Y ⟨rfl,hi,p⟩ λm M=>⟨rfl,I.turnedL (t':=s.toks) (λb o hb q=>M b o (λz=>hb (by simp[z])) q) R⟩
 self:=λ_ _ _ _ _ c h=>wpAny_pyIter_enum c.1.choose_spec h
section
def cS3 (κ:Bool)(K:Frag)(ta:TA):TI:=λσ H R=>ta σ H λvs H1=>∃a xs,vs=[.ref a]/\SqK κ K H1 a xs/\R (Ieq κ K a) H1
theorem bW0 (κ:Bool){p pos:Pos}(K:Frag)(M:Gl X "enumerate")(Q:X.mg "enumerate" = none)(J:PA X [l] ta)(U:X.K=K:=by rfl)(F:starEach [l] X.env=[(false,eval l X.env)]:=by rfl):PI X (.Tuple elts k ps) (.Call (.Name "enumerate" p) [l] [] pos) (cS3 κ K ta):=by
 subst U;refine⟨?_⟩;intro Y s σ H R I h;refine Call_ (y4 I M Q boot_enumerate (Bo (thn (J pos Y s σ H _ I h) λus c pz=>?_) F rfl))
 obtain⟨vs,H1,j,P,B⟩:=pz;obtain⟨a,xs,e,D,q⟩:=B;subst e;obtain⟨u,rfl,rx⟩:=U4 P;cases rx;obtain⟨its,rv,pl⟩:=j.seqq D;refine cQ6 pl λh' m hi kp=>?_
 refine wpAny_pyIter_enum m ?_;refine⟨c.heap.objs.size+1,[c.heap.objs.size+1,c.heap.objs.size],_,_,H1,rfl,j.kept (t':=c.toks) kp,cD3 κ a _ _ SS,⟨⟨_,m⟩,hi⟩,λb hb=>?_,q⟩
 rcases Aa1.mp hb with rfl | hb
 .exact j.fpOk (Nat.le_succ _) (j.hok.fresh (Nat.le_succ _))
 .have e:b=c.heap.objs.size:=by simpa using hb
  subst e;exact j.fpOk (Aa7 _) (j.hok.fresh (Aa7 _))
end
end L2
namespace LV
open PySem PySem.Spec PyProof.Rows L2
section
variable {K:Frag}{ρ:List Sl}{m:Bool}{t ta tb:TE}{d d':PyData}{ds es:AG}
theorem cU7 (s:SqK κ K Z a xs)(r:Reps K Z xs ds):Wk K Z (Ieq κ K a) (enD ds) where
 stop:=λi H h l=>⟨xs,aQ0 h s,by rw[r.length,<- cH0];exact l⟩
 go:=λi H d h e=>by
  obtain⟨y,e,_⟩:=bQ0 e;obtain⟨v,h1,_⟩:=r.get' e;exact⟨xs,v,aQ0 h s,h1⟩
 yld:=λi H d x U h e y=>by
  obtain⟨z,e',rfl⟩:=bQ0 e;obtain⟨T,v,rfl,c,rfl,y⟩:=y
  have:=y xs (aQ0 h s)
  obtain⟨d',h1,Y⟩:=r.get this;rw[e']at h1;cases h1;have g:=D9 (o:=.tup [.int (i:Int),v]) c;refine⟨g,λS j=>?_⟩
  have X:Same Z (hid S (upd H T (.tup [.int (i:Int),v]))):=λb o q=>hid_some.mpr ⟨(λz=>by rw[(j b z).1]at q;cases q),g b o (h b o q)⟩
  exact .tup (SqT.of (hid_some.mpr ⟨λz=>(j T z).2 c,C7⟩)) (.cons (.int _) (.cons (Y.mono X) .nil))
theorem cE9 (κ:Bool){t:TA}(h:A K m t ρ [dq κ ds]):I K m (cS3 κ K t) ρ (enD ds):=λS B σ H o J R q=>h S B σ H o J _ λvs H1 e r=>by
 cases r with
 | cons a b=>
  cases b
  obtain⟨x,xs,rfl,s,r⟩:=dO9 a;exact⟨_,_,rfl,aQ0 aL1 s,q _ H1 e (cU7 s r)⟩
end
end LV
set_option maxHeartbeats 4000000
namespace L2
open PySem PySem.Spec PyProof.Rows
section
theorem psS (i:Nat){N P:AJ}{sc:Scope}{x:Str}{e:Expr}{te:TE}{pos' pos:Pos}(S:B8 N P sc)(j:PE X e te)(hN:X.N=N:=by rfl)(hi:N[i]? = some x:=by rfl)(m:Loc X.env.scope x:=by exact Or.inl rfl)(s:swapsWith e (some (.Name x pos')) pos.line X.env=pure false:=by rfl)(c:X.fn x=true\/X.env.scope.names.lookup x=some .local:=by first | exact .inl rfl | exact .inr rfl | assumption):PS X (.Assign [.Name x pos'] e pos) (aT8 te (F4 i)):=by
 subst hN;exact aC3 S.nd hi m j s c
theorem pgN (i:Nat){N P:AJ}{sc:Scope}{x:Str}{pos:Pos}(S:B8 N P sc)(hN:X.N=N:=by rfl)(hi:N[i]? = some x:=by rfl)(j:Loc X.env.scope x:=by exact Or.inl rfl)(e:X.fn x=true\/X.env.scope.names.lookup x=some .local:=by first | exact .inl rfl | exact .inr rfl | assumption):PG X (.Name x pos) (F4 i):=by
 subst hN;exact E2 S.nd hi j e
end
end L2
namespace LV
open PySem L2
section
theorem v0:E K m (F6 0) (.val d::ρ) d:=A5 rfl
theorem v1:E K m (F6 1) (a :: .val d::ρ) d:=A5 rfl
theorem v2:E K m (F6 2) (a::b :: .val d::ρ) d:=A5 rfl
theorem v3:E K m (F6 3) (a::b::c :: .val d::ρ) d:=A5 rfl
theorem v4:E K m (F6 4) (a::b::c::e :: .val d::ρ) d:=A5 rfl
theorem v5:E K m (F6 5) (a::b::c::e::f :: .val d::ρ) d:=A5 rfl
theorem v6:E K m (F6 6) (a::b::c::e::f::g :: .val d::ρ) d:=A5 rfl
theorem v7:E K m (F6 7) (a::b::c::e::f::g::h :: .val d::ρ) d:=A5 rfl
theorem v8:E K m (F6 8) (a::b::c::e::f::g::h::i :: .val d::ρ) d:=A5 rfl
end
abbrev vI (i:Int):Sl:=.val (.int i)
end LV
namespace K37
open PySem L2 LV PyProof.Rows
theorem S7 {K:Frag}(h:∀ds d,pre ds d->ds.length=n):∀vs H Q E,spV K pre vs H Q E->vs.length=n:=by
 rintro vs H Q E ⟨ds,S,d,_,r,p,_⟩;have e:=r.length;rw[e];exact h ds d p
@[elab_as_elim] theorem us1 {M:AH->Prop} (hl:us.length=1) (h:∀j,M [j]):M us:=by rcases us with _ | ⟨_,_ | ⟨_,_⟩⟩ <;> first | exact h _ | cases hl
@[elab_as_elim] theorem us2 {M:AH->Prop} (hl:us.length=2) (h:∀j c,M [j,c]):M us:=by rcases us with _ | ⟨_,_ | ⟨_,_ | ⟨_,_⟩⟩⟩ <;> first | exact h _ _ | cases hl
@[elab_as_elim] theorem us3 {M:AH->Prop} (hl:us.length=3) (h:∀j c s,M [j,c,s]):M us:=by rcases us with _ | ⟨_,_ | ⟨_,_ | ⟨_,_ | ⟨_,_⟩⟩⟩⟩ <;> first | exact h _ _ _ | cases hl
def top (i:Nat):Stmt:=PySem.Challenge.pw_threetrees_k37_lowest_and_highest.main.body.getD i (.Pass ⟨0,0,0,0⟩)
abbrev w9:Stmt:=top 7
abbrev R7:Stmt:=top 8
abbrev u9:Stmt:=top 9
abbrev aK4:Stmt:=top 10
abbrev y9:Stmt:=top 11
abbrev t8:Stmt:=top 12
abbrev cC5:Stmt:=top 13
abbrev aR2:Stmt:=top 14
abbrev bP3:Stmt:=top 15
abbrev l8:Stmt:=top 16
abbrev Z3:Stmt:=top 17
abbrev aF2:Stmt:=top 18
abbrev z4:Stmt:=top 19
abbrev R8:Stmt:=top 22
abbrev U9:Stmt:=top 23
abbrev aR9:Stmt:=top 24
abbrev aB5:Stmt:=top 25
abbrev aF0:Stmt:=top 27
abbrev aZ1:Stmt:=top 28
abbrev aS4:Stmt:=top 29
abbrev aK3:Stmt:=top 30
abbrev bO9:Stmt:=top 31
abbrev aZ8:Stmt:=top 32
abbrev W9:Stmt:=top 34
abbrev aX8:Stmt:=top 35
abbrev aT6:Stmt:=top 36
abbrev i8:Stmt:=top 38
abbrev t7:Stmt:=top 39
abbrev z7:Stmt:=top 40
abbrev y2:Stmt:=top 41
abbrev y0:Stmt:=top 42
abbrev y6:Stmt:=top 43
abbrev u4:Stmt:=top 44
abbrev i5:Stmt:=top 45
abbrev l7:Stmt:=top 46
abbrev S0:Stmt:=top 47
abbrev Q9:Stmt:=top 48
abbrev w4:Stmt:=top 49
abbrev O8:Stmt:=top 50
abbrev X3:Stmt:=top 51
abbrev Y0:Stmt:=top 52
abbrev U2:Stmt:=top 53
abbrev Y1:Stmt:=top 54
abbrev cT5:Stmt:=top 55
set_option genInjectivity false in
structure Ad where
 aN2:Addr
 aL5:FuncData
 Y4:Addr
 Z8:FuncData
 aO4:Addr
 aN4:FuncData
 bA4:Addr
 bC2:FuncData
 aQ7:Addr
 aM9:FuncData
 aO3:Addr
 aQ3:FuncData
 cQ3:Addr
 cV3:FuncData
 bH5:Addr
 bI6:FuncData
 cK2:Addr
 cH1:FuncData
 aI0:Addr
 aI7:FuncData
 aD1:Addr
 aE8:FuncData
 aU6:Addr
 aU7:FuncData
 aM4:Addr
 aP4:FuncData
 j0:Addr
 a9:FuncData
 r6:Addr
 p8:FuncData
 bG1:Addr
 bH0:FuncData
 aU2:Addr
 aU4:FuncData
 aV0:Addr
 aU9:FuncData
 bV2:Addr
 bR1:FuncData
 bH7:Addr
 bF7:FuncData
 bD3:Addr
 aY3:FuncData
 cJ7:Addr
 cK1:FuncData
 bW2:Addr
 bU3:FuncData
 aA4:Addr
 aA5:FuncData
 bU1:Addr
 bT8:FuncData
 bF9:Addr
 bI3:FuncData
 aC2:Addr
 aB6:FuncData
 aL7:Addr
 aM3:FuncData
 aN6:Addr
 aN5:FuncData
 aM7:Addr
 aP3:FuncData
 aO9:Addr
 aP9:FuncData
 aP7:Addr
 aO5:FuncData
 aN7:Addr
 aQ6:FuncData
 aC0:Addr
 aE7:FuncData
 aI5:Addr
 aI8:FuncData
 e6:Addr
 a8:FuncData
 Z5:Addr
 Z1:FuncData
 aQ5:Addr
 aO0:FuncData
 V8:Addr
 W0:FuncData
 aA9:Addr
 aA6:FuncData
 aE1:Addr
 aB4:FuncData
 k7:Addr
 l5:FuncData
 aD8:Addr
 aB7:FuncData
 cE2:Addr
 bV6:FuncData
structure Fx (K:Frag)(mg:Str->Option Value)(n:Str)(st:Stmt)(f:Addr)(d:FuncData)(ps:AJ):Prop where
 F:Fun K n n st f d
 m:mg n=some (.ref f)
 b:Binds K d ps []
section
theorem pcl {k j:Nat}{f:Addr}{fd:FuncData}{ps:AJ}{sp:Sp}{x:Str}{st:Stmt}{e:Expr}{es:AN}{t:TA}{p pos:Pos}(G:J6 X.prog X.w X.K X.mg X.base CX0 k f fd ps sp)(R:Room j X.A)(F:Fx X.K X.mg x st f fd ps)(Y:PA X (e::es) t)(M:k<=j:=by decide)(J:Gl X x:=by rfl)
  (c:(x==("__debug__" : Str))=false:=by decide) (U:starEach (e::es) X.env=(false,eval e X.env)::starEach es X.env:=by rfl) (s:(backTo pos (starEach es X.env)).any (·.1)=false:=by rfl):PE X (.Call (.Name x p) (e::es) [] pos) (o6 sp [] E0 t):=dI3 G (R.mono M) J F.m F.F.kp F.b .nil eE8 Y c U s
end
set_option genInjectivity false in
structure Tx (K:Frag)(mg:Str->Option Value)(a:Ad):Prop where
 t6:Fx K mg "begun_with" w9 a.aN2 a.aL5 ["ring", "first"]
 Y8:Fx K mg "begun_with_least" R7 a.Y4 a.Z8 ["ring"]
 P6:Fx K mg "ways_round" u9 a.aO4 a.aN4 ["ring"]
 aJ0:Fx K mg "ahead_in" aK4 a.bA4 a.bC2 ["turn", "place"]
 aQ1:Fx K mg "round_from" y9 a.aQ7 a.aM9 ["turns", "p", "q"]
 aN8:Fx K mg "all_rounds" t8 a.aO3 a.aQ3 ["turns"]
 bO0:Fx K mg "tied" cC5 a.cQ3 a.cV3 ["drawing", "p", "q"]
 bJ3:Fx K mg "left_of" aR2 a.bH5 a.bI6 ["drawing", "p", "q"]
 cF2:Fx K mg "lands" bP3 a.cK2 a.cH1 ["drawing"]
 aH9:Fx K mg "inner_lands" l8 a.aI0 a.aI7 ["drawing"]
 T9:Fx K mg "land_left_of" Z3 a.aD1 a.aE8 ["drawing", "p", "q"]
 aV1:Fx K mg "crossings" aF2 a.aU6 a.aU7 ["drawing", "first", "shut"]
 aN3:Fx K mg "lands_from" z4 a.aM4 a.aP4 ["drawing", "first", "shut"]
 j2:Fx K mg "can_be_taken_off" R8 a.j0 a.a9 ["drawing", "rim", "k"]
 p9:Fx K mg "next_taken_off" U9 a.r6 a.p8 ["drawing", "rim"]
 bJ4:Fx K mg "between" aR9 a.bG1 a.bH0 ["turn", "ahead", "behind"]
 aD7:Fx K mg "taken_off" aB5 a.aU2 a.aU4 ["drawing"]
 aC6:Fx K mg "ring_ways" aF0 a.aV0 a.aU9 ["drawing", "ring"]
 bV9:Fx K mg "inside" aZ1 a.bV2 a.bR1 ["drawing", "ring"]
 bI9:Fx K mg "is_left" aS4 a.bH7 a.bF7 ["drawing", "ring"]
 aJ8:Fx K mg "go_round" aK3 a.bD3 a.aY3 ["arrows", "ring"]
 cF6:Fx K mg "rings" bO9 a.cJ7 a.cK1 ["drawing", "arrows"]
 bR3:Fx K mg "turned" aZ8 a.bW2 a.bU3 ["drawing", "arrows", "ring"]
 X1:Fx K mg "turned_to_end" W9 a.aA4 a.aA5 ["drawing", "arrows", "left"]
 bE3:Fx K mg "lowest" aX8 a.bU1 a.bT8 ["drawing"]
 aT9:Fx K mg "highest" aT6 a.bF9 a.bI3 ["drawing"]
 T8:Fx K mg "_law_cell_at" i8 a.aC2 a.aB6 ["_law_script", "_law_k"]
 T1:Fx K mg "_law_mixed" t7 a.aL7 a.aM3 ["_law_cell", "_law_k"]
 aL4:Fx K mg "_law_names" z7 a.aN6 a.aN5 ["_law_cell", "_law_m"]
 aK9:Fx K mg "_law_grown" y2 a.aM7 a.aP3 ["_law_first", "_law_second"]
 z5:Fx K mg "_law_begun" y0 a.aO9 a.aP9 ["_law_turn"]
 aM2:Fx K mg "_law_built" y6 a.aP7 a.aO5 ["_law_cell", "_law_cells", "_law_m"]
 aO1:Fx K mg "_law_whole" u4 a.aN7 a.aQ6 ["_law_found"]
 aE9:Fx K mg "_law_rows_of" i5 a.aC0 a.aE7 ["_law_found", "_law_many"]
 aI4:Fx K mg "_law_arrows" l7 a.aI5 a.aI8 ["_law_outs"]
 R9:Fx K mg "_law_arrow_rings" S0 a.e6 a.a8 ["_law_arrows_here"]
 R6:Fx K mg "_law_ring_turned" Q9 a.Z5 a.Z1 ["_law_arrows_here", "_law_ring"]
 aP2:Fx K mg "_law_moved" w4 a.aQ5 a.aO0 ["_law_arrows_here", "_law_cells"]
 W5:Fx K mg "_law_lands_at_left" O8 a.V8 a.W0 ["_law_drawing"]
 aA2:Fx K mg "_law_due_step" X3 a.aA9 a.aA6 ["_law_one", "_law_other", "_law_way"]
 T5:Fx K mg "_law_heights" Y0 a.aE1 a.aB4 ["_law_drawing", "_law_one", "_law_other"]
 U0:Fx K mg "_law_are_arrows" U2 a.k7 a.l5 ["_law_drawing", "_law_found"]
 Z6:Fx K mg "_law_no_ring" Y1 a.aD8 a.aB7 ["_law_drawing", "_law_arrows_here", "_law_lift"]
 dM5:Fx K mg "law" cT5 a.cE2 a.bV6 ["_law_script"]
 aP6:mg "ValueError" = none
 bJ1:mg "all" = none
 cD2:mg "bool" = none
 j4:mg "enumerate" = none
 bR8:mg "int" = none
 N6:mg "isinstance" = none
 O4:mg "len" = none
 aJ1:mg "list" = none
 cK9:mg "max" = none
 bA8:mg "min" = none
 J8:mg "range" = none
 t5:mg "reversed" = none
 L4:mg "sorted" = none
 N5:mg "tuple" = none
 m9:∃t,mg "CORNERS" = some (.int 3 t)
 X8:∃ad,mg "OUTER_LAND" = some (.ref ad)/\∀H,SqT K H ad [.int 0,.int 2,.int 1]
 aB3:∃ad,mg "FIRST_RIM" = some (.ref ad)/\∀H,SqT K H ad [.int 0,.int 2,.int 1]
structure Fq (K:Frag)(n:Str)(st:Stmt)(f:Addr)(d:FuncData):Prop where
 a:PySem.W.nsIn K mainGlobals n=some (some (.ref f))
 F:Fun K n n st f d
theorem Fq.fx1 {K:Frag}{h:Heap}{mg:Str->Option Value}{n x0:Str}{st:Stmt}{f:Addr}{d:FuncData}(q:Fq K n st f d)(X:K.In h)(G:h.Ns mainGlobals mg)(e:∀(kV doc pm:Value) (an:AL) (cdv ct u0:Value),bindArgs (PySem.W.fnOf n n (aA1 st) (j8 st) (B3 st) .none kV doc pm an cdv ct) ⟨[u0],[]⟩=pure [(x0,u0)]:=by intros;rfl):Fx K mg n st f d [x0]:=⟨q.F,Dj X G q.a,q.F.binds λ_ _ _ _ _ _ c j=>us1 j λu0=>e _ _ _ _ _ _ u0⟩
theorem Fq.fx2 {K:Frag}{h:Heap}{mg:Str->Option Value}{n x0 x1:Str}{st:Stmt}{f:Addr}{d:FuncData}(q:Fq K n st f d)(X:K.In h)(G:h.Ns mainGlobals mg)(e:∀(kV doc pm:Value) (an:AL) (cdv ct u0 u1:Value),bindArgs (PySem.W.fnOf n n (aA1 st) (j8 st) (B3 st) .none kV doc pm an cdv ct) ⟨[u0,u1],[]⟩=pure [(x0,u0),(x1,u1)]:=by intros;rfl):Fx K mg n st f d [x0,x1]:=⟨q.F,Dj X G q.a,q.F.binds λ_ _ _ _ _ _ c j=>us2 j λu0 u1=>e _ _ _ _ _ _ u0 u1⟩
theorem Fq.fx3 {K:Frag}{h:Heap}{mg:Str->Option Value}{n x0 x1 x2:Str}{st:Stmt}{f:Addr}{d:FuncData}(q:Fq K n st f d)(X:K.In h)(G:h.Ns mainGlobals mg)(e:∀(kV doc pm:Value) (an:AL) (cdv ct u0 u1 u2:Value),bindArgs (PySem.W.fnOf n n (aA1 st) (j8 st) (B3 st) .none kV doc pm an cdv ct) ⟨[u0,u1,u2],[]⟩=pure [(x0,u0),(x1,u1),(x2,u2)]:=by intros;rfl):Fx K mg n st f d [x0,x1,x2]:=⟨q.F,Dj X G q.a,q.F.binds λ_ _ _ _ _ _ c j=>us3 j λu0 u1 u2=>e _ _ _ _ _ _ u0 u1 u2⟩
set_option maxHeartbeats 4000000 in
theorem tx_mk {K:Frag}(X:K.In h)(G:h.Ns mainGlobals mg)
  (q0:Fq K "begun_with" w9 f0 d0)
  (q1:Fq K "begun_with_least" R7 f1 d1)
  (q2:Fq K "ways_round" u9 f2 d2)
  (q3:Fq K "ahead_in" aK4 f3 d3)
  (q4:Fq K "round_from" y9 f4 d4)
  (q5:Fq K "all_rounds" t8 f5 d5)
  (q6:Fq K "tied" cC5 f6 d6)
  (q7:Fq K "left_of" aR2 f7 d7)
  (q8:Fq K "lands" bP3 f8 d8)
  (q9:Fq K "inner_lands" l8 f9 d9)
  (B:Fq K "land_left_of" Z3 f10 d10)
  (P:Fq K "crossings" aF2 f11 d11)
  (q12:Fq K "lands_from" z4 f12 d12)
  (q13:Fq K "can_be_taken_off" R8 f13 d13)
  (q14:Fq K "next_taken_off" U9 f14 d14)
  (q15:Fq K "between" aR9 f15 d15)
  (q16:Fq K "taken_off" aB5 f16 d16)
  (q17:Fq K "ring_ways" aF0 f17 d17)
  (q18:Fq K "inside" aZ1 f18 d18)
  (q19:Fq K "is_left" aS4 f19 d19)
  (q20:Fq K "go_round" aK3 f20 d20)
  (q21:Fq K "rings" bO9 f21 d21)
  (q22:Fq K "turned" aZ8 f22 d22)
  (q23:Fq K "turned_to_end" W9 f23 d23)
  (q24:Fq K "lowest" aX8 f24 d24)
  (q25:Fq K "highest" aT6 f25 d25)
  (q26:Fq K "_law_cell_at" i8 f26 d26)
  (q27:Fq K "_law_mixed" t7 f27 d27)
  (q28:Fq K "_law_names" z7 f28 d28)
  (q29:Fq K "_law_grown" y2 f29 d29)
  (q30:Fq K "_law_begun" y0 f30 d30)
  (q31:Fq K "_law_built" y6 f31 d31)
  (q32:Fq K "_law_whole" u4 f32 d32)
  (q33:Fq K "_law_rows_of" i5 f33 d33)
  (q34:Fq K "_law_arrows" l7 f34 d34)
  (q35:Fq K "_law_arrow_rings" S0 f35 d35)
  (q36:Fq K "_law_ring_turned" Q9 f36 d36)
  (q37:Fq K "_law_moved" w4 f37 d37)
  (q38:Fq K "_law_lands_at_left" O8 f38 d38)
  (q39:Fq K "_law_due_step" X3 f39 d39)
  (q40:Fq K "_law_heights" Y0 f40 d40)
  (q41:Fq K "_law_are_arrows" U2 f41 d41)
  (q42:Fq K "_law_no_ring" Y1 f42 d42)
  (c:Fq K "law" cT5 f43 d43)
  (U:PySem.W.nsIn K mainGlobals "ValueError" = some none)
  (M:PySem.W.nsIn K mainGlobals "all" = some none)
  (Q:PySem.W.nsIn K mainGlobals "bool" = some none)
  (j4:PySem.W.nsIn K mainGlobals "enumerate" = some none)
  (R:PySem.W.nsIn K mainGlobals "int" = some none)
  (N6:PySem.W.nsIn K mainGlobals "isinstance" = some none)
  (O4:PySem.W.nsIn K mainGlobals "len" = some none)
  (Y:PySem.W.nsIn K mainGlobals "list" = some none)
  (D:PySem.W.nsIn K mainGlobals "max" = some none)
  (J:PySem.W.nsIn K mainGlobals "min" = some none)
  (J8:PySem.W.nsIn K mainGlobals "range" = some none)
  (t5:PySem.W.nsIn K mainGlobals "reversed" = some none)
  (L4:PySem.W.nsIn K mainGlobals "sorted" = some none)
  (N5:PySem.W.nsIn K mainGlobals "tuple" = some none)
  (m9:PySem.W.nsIn K mainGlobals "CORNERS" = some (some (.int 3 t_CORNERS)))
  (X8:PySem.W.nsIn K mainGlobals "OUTER_LAND" = some (some (.ref c_OUTER_LAND))) (e:K.lookup c_OUTER_LAND=some ⟨.type "tuple",none,.seq #[.int 0 t0_OUTER_LAND,.int 2 t1_OUTER_LAND,.int 1 t2_OUTER_LAND] q_OUTER_LAND,sl_OUTER_LAND⟩)
  (m:PySem.W.nsIn K mainGlobals "FIRST_RIM" = some (some (.ref c_FIRST_RIM))) (j:K.lookup c_FIRST_RIM=some ⟨.type "tuple",none,.seq #[.int 0 t0_FIRST_RIM,.int 2 t1_FIRST_RIM,.int 1 t2_FIRST_RIM] q_FIRST_RIM,sl_FIRST_RIM⟩)
  : ∃a:Ad,Tx K mg a/\a.cE2=f43/\∀(s:Shared) (v:Value),BindsTo s a.bV6 ⟨[v],[]⟩ [("_law_script",v)]:=by
 refine⟨⟨f0,d0,f1,d1,f2,d2,f3,d3,f4,d4,f5,d5,f6,d6,f7,d7,f8,d8,f9,d9,f10,d10,f11,d11,f12,d12,f13,d13,f14,d14,f15,d15,f16,d16,f17,d17,f18,d18,f19,d19,f20,d20,f21,d21,f22,d22,f23,d23,f24,d24,f25,d25,f26,d26,f27,d27,f28,d28,f29,d29,f30,d30,f31,d31,f32,d32,f33,d33,f34,d34,f35,d35,f36,d36,f37,d37,f38,d38,f39,d39,f40,d40,f41,d41,f42,d42,f43,d43⟩,⟨q0.fx2 X G,q1.fx1 X G,q2.fx1 X G,q3.fx2 X G,q4.fx3 X G,q5.fx1 X G,q6.fx3 X G,q7.fx3 X G,q8.fx1 X G,q9.fx1 X G,B.fx3 X G,P.fx3 X G,q12.fx3 X G,q13.fx3 X G,q14.fx2 X G,q15.fx3 X G,q16.fx1 X G,q17.fx2 X G,q18.fx2 X G,q19.fx2 X G,q20.fx2 X G,q21.fx2 X G,q22.fx3 X G,q23.fx3 X G,q24.fx1 X G,q25.fx1 X G,q26.fx2 X G,q27.fx2 X G,q28.fx2 X G,q29.fx2 X G,q30.fx1 X G,q31.fx3 X G,q32.fx1 X G,q33.fx2 X G,q34.fx1 X G,q35.fx1 X G,q36.fx2 X G,q37.fx2 X G,q38.fx1 X G,q39.fx3 X G,q40.fx3 X G,q41.fx2 X G,q42.fx3 X G,c.fx1 X G,Bd X G U,Bd X G M,Bd X G Q,Bd X G j4,Bd X G R,Bd X G N6,Bd X G O4,Bd X G Y,Bd X G D,Bd X G J,Bd X G J8,Bd X G t5,Bd X G L4,Bd X G N5,⟨t_CORNERS,Dj X G m9⟩,⟨c_OUTER_LAND,Dj X G X8,λH=>.inr ⟨_,_,_,e,rfl,rfl,rfl,(show 3<=sizeLine by decide),.cons ⟨_,rfl⟩ (.cons ⟨_,rfl⟩ (.cons ⟨_,rfl⟩ (.nil)))⟩⟩,⟨c_FIRST_RIM,Dj X G m,λH=>.inr ⟨_,_,_,j,rfl,rfl,rfl,(show 3<=sizeLine by decide),.cons ⟨_,rfl⟩ (.cons ⟨_,rfl⟩ (.cons ⟨_,rfl⟩ (.nil)))⟩⟩⟩,rfl,λs v=>?_⟩
 obtain⟨_,_,_,_,_,_,_,_,_,rfl,_⟩:=c.F.ex;exact .of_eq rfl
theorem D6:B8 ["_law_first", "_law_second", "_law_outs", "_law_ins", "_law_path", "_law_heap", "_law_i", "_law_ahead", "_law_k", "_law_place", "_law_turns", "_law_v", "_law_came", "_law_row"] ["_law_first", "_law_second"] (B3 y2):={}
def rh (m:Nat)(F G:Nat->Nat)(o i:OT)(p h:AD)(x6 x7 x8 x9:Sl):List Sl:=
 [.val (lI (fl F m)),.val (lI (fl G m)),.tr o,.tr i,.own (nI p.reverse),.own (nI h.reverse),x6,x7,x8,x9,.no,.no,.no,.no]
theorem k8 {F G:Nat->Nat}(e:x6.nb=true)(j:x7.nb=true)(c:x8.nb=true)(s:x9.nb=true):O7 (rh m F G o i p h x6 x7 x8 x9)=true:=by
 unfold rh;simp only[w5,e,j,c,s,Bool.true_and];rfl
def rh2 (m:Nat)(F G:Nat->Nat)(o i:PyData)(p h:AG)(x6 x7 x8 x9 x10 x11 x12 x13:Sl):List Sl:=
 [.val (lI (fl F m)),.val (lI (fl G m)),.val o,.val i,.own p,.own h,x6,x7,x8,x9,x10,x11,x12,x13]
theorem cB1 {F G:Nat->Nat}(Y:x6.nb=true)(X:x7.nb=true)(U:x8.nb=true)(J:x9.nb=true)(e:x10.nb=true)(j:x11.nb=true)(c:x12.nb=true)(s:x13.nb=true):O7 (rh2 m F G o i p h x6 x7 x8 x9 x10 x11 x12 x13)=true:=by
 unfold rh2;simp only[w5,Y,X,U,J,e,j,c,s,Bool.true_and];rfl
def cZ8 (ds:AG)(d:PyData):Prop:=∃F G m,TT.Rws F G m/\m<=1000/\ds=[lI (fl F m),lI (fl G m)] /\
 d=.tuple [.list ((List.range (m+3)).map λv=>lN ((TT.gst F G m).row v)),.list ((List.range m).map λv=>lN [(TT.gst F G m).o0 (v+3),(TT.gst F G m).o1 (v+3),(TT.gst F G m).o2 (v+3)])]
section
variable {P:Program}{w:World}{K:Frag}{mg:Str->Option Value}{base:Heap}{a:Ad}
theorem cO4 (T:Tx K mg a):J6 P w K mg base CX0 1 a.aM7 a.aP3 ["_law_first", "_law_second"] (spV K cZ8):=by
 refine T.aK9.F.ok D6 (S7 (by rintro ds d ⟨_,_,_,_,_,rfl,_⟩;rfl)) (λcdv A outer s H vs Q E hr h=>?_)
 obtain⟨ds,S,d,hS,r,⟨F,G,m,R,hm,rfl,rfl⟩,k⟩:=h;refine⟨_,(A6 (psS 2 D6 (C4 A4))
   (A6 (psS 3 D6 (C4 (A0 (D0 (A0 (C4 A4) (A0 (C4 A4) (A0 (C4 A4) A4)))) (A0 (D0 (A0 (C4 A4) (A0 (C4 A4) (A0 (C4 A4) A4)))) (A0 (D0 (A0 (C4 A4) (A0 (C4 A4) (A0 (C4 A4) A4)))) A4)))))
   (A6 (psS 4 D6 (C4 (A0 A8 A4)))
   (A6 (psS 5 D6 (C4 (A0 A8 A4)))
   (A6 (J5 Al rfl (K1 rfl T.J8 (A0 (B4 M3 RR T.O4 Av (A0 (pv 0) A4)) A4)) (pgN 6 D6) (A6 (psS 7 D6 (C4 (A0 A8 (A0 A8 A4))))
   (A6 (N0 (C3 aI9 (pv 6) A8 (E9 _)) (A9 (psS 7 D6 (C4 (A0 (B5 D5 (pv 0) (B7 Q2 (pv 6) A8)) (A0 (B5 D5 (pv 1) (B7 Q2 (pv 6) A8)) A4))))) F0)
   (A6 (J5 Al rfl (K1 rfl T.J8 (A0 (B7 Q2 (B5 D5 (pv 0) (pv 6)) (B5 D5 (pv 7) A8)) A4)) (pgN 8 D6) (A9 (E4 (G7 Ab1 Ag Af D3 (pv 5) (A0 (bE1 Ab1 PySem.F.slot_list_pop PySem.F.type_list_pop bC5 (pv 4)) A4)))))
   (A6 (E4 (G7 Ab1 Ag Af D3 (pv 3) (A0 (D0 (A0 (C4 A4) (A0 (C4 A4) (A0 (C4 A4) A4)))) A4)))
   (A6 (J5 Al rfl (K1 rfl T.J8 (A0 (B7 Q2 (B5 D5 (pv 1) (pv 6)) (B5 D5 (pv 7) A8)) A4)) (pgN 8 D6) (A6 (psS 9 D6 (bE1 Ab1 PySem.F.slot_list_pop PySem.F.type_list_pop bC5 (pv 5)))
   (A6 (aS2 (B7 H9 A8 (pv 6)) (cB4 (B5 D5 (pv 2) (B7 Q2 (pv 9) A8)) A8 bA1))
   (A9 (E4 (G7 Ab1 Ag Af D3 (B5 D5 (B5 D5 (pv 3) (B7 H9 A8 (pv 6))) A8) (A0 (pv 9) A4)))))))
   (A6 (E4 (G7 Ab1 Ag Af D3 (pv 2) (A0 (C4 (A0 (B5 D5 (pv 4) (aU8 aE0 A8)) (A0 (B5 D5 (pv 5) (aU8 aE0 A8)) (A0 A8 A4)))) A4)))
   (A6 (E4 (G7 Ab1 Ag Af D3 (B5 D5 (B5 D5 (pv 3) (B5 D5 (pv 4) (aU8 aE0 A8))) A8) (A0 (B7 H9 A8 (pv 6)) A4)))
   (A6 (E4 (G7 Ab1 Ag Af D3 (B5 D5 (B5 D5 (pv 3) (B5 D5 (pv 5) (aU8 aE0 A8))) A8) (A0 (B7 H9 A8 (pv 6)) A4)))
   (A9 (E4 (G7 Ab1 Ag Af D3 (pv 4) (A0 (B7 H9 A8 (pv 6)) A4)))))))))))))
   (A6 (Y7 Al (C3 aI9 (B4 M3 RR T.O4 Av (A0 (pv 4) A4)) A8 (E9 _)) (A9 (E4 (G7 Ab1 Ag Af D3 (pv 5) (A0 (bE1 Ab1 PySem.F.slot_list_pop PySem.F.type_list_pop bC5 (pv 4)) A4)))))
   (A6 (Y7 Al (C3 aI9 (B4 M3 RR T.O4 Av (A0 (pv 5) A4)) A8 (E9 _)) (A9 (E4 (G7 Ab1 Ag Af D3 (B5 D5 (B5 D5 (pv 3) A8) A8) (A0 (bE1 Ab1 PySem.F.slot_list_pop PySem.F.type_list_pop bC5 (pv 5)) A4)))))
   (A6 (psS 10 D6 (C4 (A0 (B7 (M7 K) (B7 (M7 K) (C4 (A0 A8 A4)) (B5 D5 (B5 D5 (pv 3) A8) A8)) (C4 (A0 A8 A4))) A4)))
   (A6 (E4 (G7 Ab1 Ag Af D3 (pv 10) (A0 (B7 (M7 K) (B7 (M7 K) (C4 (A0 A8 A4)) (aZ3 K rfl RR T.aJ1 RR T.t5 (B5 D5 (B5 D5 (pv 3) A8) A8))) (C4 (A0 A8 A4))) A4)))
   (A6 (E4 (G7 Ab1 Ag Af D3 (pv 10) (A0 (B7 (M7 K) (B7 (M7 K) (C4 (A0 A8 A4)) (B5 D5 (B5 D5 (pv 3) A8) A8)) (C4 (A0 A8 A4))) A4)))
   (A6 (J5 Al rfl (K1 rfl T.J8 (A0 (B4 M3 RR T.O4 Av (A0 (pv 2) A4)) A4)) (pgN 11 D6) (A6 (psS 12 D6 (B5 D5 (pv 3) (B7 H9 A8 (pv 11))))
   (A6 (psS 13 D6 (B7 (M7 K) (B7 (M7 K) (B7 (M7 K) (C4 (A0 (B5 D5 (B5 D5 (pv 2) (pv 11)) A8) A4)) (B5 D5 (pv 12) A8)) (C4 (A0 (B5 D5 (B5 D5 (pv 2) (pv 11)) A8) A4))) (B5 D5 (pv 12) A8)))
   (A9 (E4 (G7 Ab1 Ag Af D3 (pv 10) (A0 (B7 (M7 K) (B7 (M7 K) (pv 13) (C4 (A0 (B5 D5 (B5 D5 (pv 2) (pv 11)) A8) A4))) (aZ3 K rfl RR T.aJ1 RR T.t5 (B5 D5 (pv 12) A8))) A4)))))))
   (A9 (C0 (D0 (A0 (pv 10) (A0 (pv 2) A4)))))))))))))))),G1 hS r ?_ k⟩
 refine B1 (bC0 (N4 K3) ?_);refine B1 (bC0 (N4 (G8 (aW9 (G8 (N4 K3) (G8 (N4 K3) (G8 (N4 K3) K3)))) (G8 (aW9 (G8 (N4 K3) (G8 (N4 K3) (G8 (N4 K3) K3)))) (G8 (aW9 (G8 (N4 K3) (G8 (N4 K3) (G8 (N4 K3) K3)))) K3)))) ?_);refine B1 (E1 (E6 (A3 B0 A7)) ?_);refine B1 (E1 (E6 (A3 B0 A7)) ?_);have M:((fl F m).map PyData.int).length=m:=by simp[fl]
 refine B1 (N2 (T4 (A3 (P4 (A3 (A5 rfl) A7)) A7) ?_ ?_) (λi ρ=>∃x6 x7 c Y,(x6.nb=true/\x7.nb=true/\c.nb=true/\Y.nb=true) /\
  ρ=rh m F G (V2 i (TT.gst F G i).o0 (TT.gst F G i).o1 (TT.gst F G i).o2) (N7 (i+3) (TT.gst F G i).i0 (TT.gst F G i).i1 (TT.gst F G i).i2) (TT.gst F G i).path (TT.gst F G i).heap x6 x7 c Y) ⟨_,_,_,_,⟨rfl,rfl,rfl,rfl⟩,rfl⟩ ?_ ?_)
 .rw[M];simp
 .rw[M];lia
 .rintro i d _ X ⟨x6,x7,c,Y,⟨b6,b7,b8,b9⟩,rfl⟩;obtain⟨rfl,hi⟩:=T2 X;have hi:i<m:=by
   have:=hi
   simp[fl]at this
   omega
  obtain⟨sk,sa,sb,spl,D,slo,spx,B,se0,se1⟩:=TT.cA9 R hi;have hst:TT.gst F G (i+1)=(TT.gst F G i).step (F i-TT.pv F i) (G i-TT.pv G i):=rfl;have f1:=R.f1 i hi;have g1:=R.g1 i hi;have hFi:=R.f2 i hi;have hGi:=R.g2 i hi;generalize hs:TT.gst F G i=s at sk sa sb spl D slo spx B se0 se1 hst ⊢;refine⟨_,B6,?_⟩;refine B1 (E1 (E6 (A3 B0 (A3 B0 A7))) ?_ (show 7<14 by decide))
  refine B1 (cH9 (rh m F G (V2 i s.o0 s.o1 s.o2) (N7 (i+3) s.i0 s.i1 s.i2) s.path s.heap (.val (.int i)) (.own [.int (TT.pv F i),.int (TT.pv G i)]) c Y) (C2 (aB2 (A5 rfl) B0))
   (λh=>(E1 (ds:=[.int (F (i-1):Nat),.int (G (i-1):Nat)]) (E6 (A3 (D8 (A5 rfl) (L8 (A5 rfl) B0) rfl ?_) (A3 (D8 (A5 rfl) (L8 (A5 rfl) B0) rfl ?_) A7))) ?_ (show 7<14 by decide))) (λh=>G6 ?_) ?_)
  .have h:(i:Int)>0:=Ap h
   have e:i-1=((i-1:Nat):Int):=by lia
   rw[e];exact cI3 LL
  .have h:(i:Int)>0:=Ap h
   have e:i-1=((i-1:Nat):Int):=by lia
   rw[e];exact cI3 LL
  .have h:=Ap h
   obtain⟨j,rfl⟩:∃j,i=j+1:=⟨i-1,LL⟩
   rfl
  .have h:=Bl h
   have:i=0:=by simp_all
   subst this;rfl
  generalize hA:F i-TT.pv F i=na at sa sb D slo spx B hst;generalize hB:G i-TT.pv G i=nb at sb slo B hst;refine B1 (N2 (T4 (A3 (L8 (D8 (A5 rfl) (A5 rfl) rfl (cI3 hi)) (D8 (G9 rfl) B0 rfl rfl)) A7) ?_ ?_) (λj ρ=>∃c,c.nb=true /\
   ρ=rh m F G (V2 i s.o0 s.o1 s.o2) (N7 (i+3) s.i0 s.i1 s.i2) (s.path.drop j) (s.h1 j) (.val (.int i)) (.own [.int (TT.pv F i),.int (TT.pv G i)]) c Y) ⟨c,b8,rfl⟩ ?_ ?_)
  .lia
  .lia
  .rintro j d _ X ⟨y8,c8,rfl⟩;obtain⟨rfl,U⟩:=T2 X;have U:j<na:=by simp_all
   refine⟨_,B6,?_⟩;obtain⟨x,hx⟩:∃x,s.path[j]? = some x:=⟨_,Aa2 aH5⟩;have e1:s.path.drop j=x::s.path.drop (j+1):=by
    obtain⟨h1,h2⟩:=Ab0.mp hx;rw[<- h2];exact Bu h1
   have e2:s.h1 (j+1)=x::s.h1 j:=by
    unfold TT.S.h1;obtain⟨h1,h2⟩:=Ab0.mp hx;rw[Cc h1,h2];simp
   show W K _ (rh m F G (V2 i s.o0 s.o1 s.o2) (N7 (i+3) s.i0 s.i1 s.i2) (s.path.drop j) (s.h1 j) (.val (.int i)) (.own [.int (TT.pv F i:Nat),.int (TT.pv G i:Nat)]) (.val (.int j)) Y) _
   refine aS0 (bN7 (d:=.int x) (ds:=nI (s.path.drop (j+1)).reverse) ?_ (k8 rfl rfl rfl b9)) rfl rfl ?_ ⟨.val (.int j),rfl,?_⟩ ?_
   .show some (Sl.own (nI (s.path.drop j).reverse))=_
    rw[e1];simp[nI]
   .rw[C9,Ae2];unfold TT.S.h1 at D ⊢;unfold sizeLine;simp only[Ab7,Ae2,Ad1]at D ⊢
    lia
   .rw[e2];unfold rh
    simp[nI]
   .exact k8 rfl rfl rfl b9
  rintro _ ⟨y8,c8,rfl⟩;rw[N3];have ea:((F i)-(TT.pv F i:Int)).toNat=na:=by simp[*]
  rw[ea];refine B1 (o5 aJ4 rfl rfl (aW9 (G8 (N4 K3) (G8 (N4 K3) (G8 (N4 K3) K3)))) ?_ ?_ (k8 rfl rfl c8 b9))
  .rw[Aa3,Cd];unfold sizeLine;lia
  have ei:(N7 (i+3) s.i0 s.i1 s.i2).put [] (.lst (((List.range (i+3)).map λq=>OT.tup [oN (s.i0 q),oN (s.i1 q),oN (s.i2 q)])++[.tup [.lst [],.lst [],.lst []]]))=N7 (i+4) s.i0 s.i1 (TT.put s.i2 (i+3) []):=by
   rw[OT.put_nil,dF2]
   congr 1
   .funext q;by_cases e:q=i+3
    .rw[e,TT.D7,se0]
    .rw[TT.D1 e]
   .funext q;by_cases e:q=i+3
    .rw[e,TT.D7,se1]
    .rw[TT.D1 e]
  rw[ei];show W K _ (rh m F G (V2 i s.o0 s.o1 s.o2) (N7 (i+4) s.i0 s.i1 (TT.put s.i2 (i+3) [])) (s.path.drop na) (s.h1 na) (.val (.int i)) (.own [.int (TT.pv F i),.int (TT.pv G i:Nat)]) y8 Y) _;generalize hh:s.h1 na=h at sb D slo B ⊢;refine B1 (N2 (T4 (A3 (L8 (D8 (A5 rfl) (A5 rfl) rfl (cI3 hi)) (D8 (G9 rfl) B0 rfl rfl)) A7) ?_ ?_) (λj ρ=>∃c Y,c.nb=true/\Y.nb=true /\
   ρ=rh m F G (V2 i s.o0 s.o1 (λq=>if q∈h.take j then i+3 else s.o2 q)) (N7 (i+4) s.i0 s.i1 (TT.put s.i2 (i+3) (h.take j))) (s.path.drop na) (h.drop j) (.val (.int i)) (.own [.int (TT.pv F i:Nat),.int (TT.pv G i)]) c Y) ⟨y8,Y,c8,b9,SS⟩ ?_ ?_)
  .lia
  .lia
  .rintro j d _ X ⟨z8,z9,c8,c9,rfl⟩;obtain⟨rfl,U⟩:=T2 X;have U:j<nb:=by simp_all
   refine⟨_,B6,?_⟩;obtain⟨x,hx⟩:∃x,h[j]? = some x:=⟨_,Aa2 aH5⟩;obtain⟨hx1,hx2⟩:=Ab0.mp hx;have e1:h.drop j=x::h.drop (j+1):=by rw[<- hx2];exact Bu hx1
   have e2:h.take (j+1)=h.take j++[x]:=by rw[<- hx2];exact Cc hx1
   obtain⟨x3,xi⟩:=slo x (by
    refine Aw (i:=j) ?_;rw[List.getElem?_take,Ac U];exact hx)
   refine B1 (eC1 (ds:=nI (h.drop (j+1)).reverse) (d:=.int x) ?_ ?_ (k8 rfl rfl rfl c9))
   .show some (Sl.own (nI (h.drop j).reverse))=_
    rw[e1];simp[nI]
   have e3:(3:Int)+i=((i+3:Nat):Int):=by lia
   have hx3:x-3+3=x:=by simp[*]
   have eo:(V2 i s.o0 s.o1 (λq=>if q∈h.take j then i+3 else s.o2 q)).put [x-3] (oN [s.o0 (x-3+3),s.o1 (x-3+3),i+3])=V2 i s.o0 s.o1 (λq=>if q∈h.take (j+1) then i+3 else s.o2 q):=by
    rw[dF5 LL]
    congr 1
    funext q
    rw[hx3,e2];by_cases e:q=x
    .rw[e,TT.D7];simp
    .rw[TT.D1 e];simp[e]
   refine B1 (dQ9 (us:=[.leaf (.int (s.o0 (x-3+3):Nat)),.leaf (.int (s.o1 (x-3+3):Nat)),.leaf (.int ((if x-3+3∈h.take j then i+3 else s.o2 (x-3+3):Nat):Int))]) 2 (L8 B0 (A5 rfl)) (aP1 (x-3) aJ4 (L8 (A5 rfl) B0) LL (λu _=>⟨u,rfl⟩)) B0 rfl (by decide:2<3) rfl (dW6 LL) ?_ (k8 rfl rfl rfl rfl))
   rw[e3];show W K _ ((rh m F G (V2 i s.o0 s.o1 (λq=>if q∈h.take j then i+3 else s.o2 q)) (N7 (i+4) s.i0 s.i1 (TT.put s.i2 (i+3) (h.take j))) (s.path.drop na) (h.drop (j+1)) (.val (.int i)) (.own [.int (TT.pv F i:Nat),.int (TT.pv G i:Nat)]) (.val (.int j)) (.val (.int x))).set 2
    (.tr ((V2 i s.o0 s.o1 (λq=>if q∈h.take j then i+3 else s.o2 q)).put [x-3] (oN [s.o0 (x-3+3),s.o1 (x-3+3),i+3])))) _
   rw[eo];refine o5 (aP1 2 (aP1 (i+3) aJ4 (L8 B0 (A5 rfl)) OO (λu _=>⟨u,rfl⟩)) B0 rfl (λu0 h=>by cases h;exact⟨_,aJ3 SS⟩)) rfl (cH6 SS) (bF8 (A5 rfl)) ?_ ?_ (k8 rfl rfl rfl rfl)
   .rw[Aa3,TT.D7,Ad1];unfold sizeLine;lia
   refine⟨.val (.int j),vI x,rfl,rfl,?_⟩;rw[bR9 SS,cH5,TT.D7,<- e2]
   rfl
  rintro _ ⟨z8,z9,c8,c9,rfl⟩;rw[N3];have eb:((G i:Int)-(TT.pv G i:Int)).toNat=nb:=by simp[*]
  rw[eb];obtain⟨x,r1,ex,xlt,xlen⟩:=spx;obtain⟨y,r2,ey,ylt,ylen⟩:=B;have e3:(3:Int)+i=((i+3:Nat):Int):=by lia
  have hpl:atI (nI (s.path.drop na).reverse) (-1)=some (.int x):=by rw[ex,List.reverse_cons,m5];exact aM6
  have hhl:atI (nI (h.drop nb).reverse) (-1)=some (.int y):=by rw[ey,List.reverse_cons,m5];exact aM6
  refine B1 (o5 aJ4 rfl rfl (N4 (G8 (bF8 (LV.E.imm (D8 (G9 rfl) (aV2 B0) rfl hpl))) (G8 (bF8 (LV.E.imm (D8 (G9 rfl) (aV2 B0) rfl hhl))) (G8 (bF8 B0) K3)))) ?_ ?_ (k8 rfl rfl c8 c9))
  .rw[Aa3,Cd];unfold sizeLine;lia
  have eo:(V2 i s.o0 s.o1 (λq=>if q∈h.take nb then i+3 else s.o2 q)).put [] (.lst (((List.range i).map λj=>oN [s.o0 (j+3),s.o1 (j+3),(λq=>if q∈h.take nb then i+3 else s.o2 q) (j+3)])++[.lst [.leaf (.int x),.leaf (.int y),.leaf (.int ((2:Nat):Int))]]))=V2 (i+1) (TT.put s.o0 (i+3) x) (TT.put s.o1 (i+3) y) (TT.put (λq=>if q∈h.take nb then i+3 else s.o2 q) (i+3) 2):=by rw[OT.put_nil];exact dF1 (o2:=λq=>if q∈h.take nb then i+3 else s.o2 q) x y 2
  show W K _ ((rh m F G (V2 i s.o0 s.o1 (λq=>if q∈h.take nb then i+3 else s.o2 q)) (N7 (i+4) s.i0 s.i1 (TT.put s.i2 (i+3) (h.take nb))) (s.path.drop na) (h.drop nb) (.val (.int i)) (.own [.int (TT.pv F i:Nat),.int (TT.pv G i:Nat)]) z8 z9).set 2 (.tr ((V2 i s.o0 s.o1 (λq=>if q∈h.take nb then i+3 else s.o2 q)).put [] (.lst (((List.range i).map λj=>oN [s.o0 (j+3),s.o1 (j+3),(λq=>if q∈h.take nb then i+3 else s.o2 q) (j+3)])++[.lst [.leaf (.int x),.leaf (.int y),.leaf (.int ((2:Nat):Int))]]))))) _
  rw[eo];refine B1 (o5 (aP1 0 (aP1 x aJ4 (D8 (G9 rfl) (aV2 B0) rfl hpl) rfl (λu _=>⟨u,rfl⟩)) B0 rfl (λu0 h=>by cases h;exact⟨_,aJ3 zq2⟩)) rfl (dE9 zq2) (bF8 (L8 B0 (A5 rfl))) ?_ ?_ (k8 rfl rfl c8 c9))
  .rw[Aa3];unfold sizeLine;lia
  have ej:=dB5 (n:=i+4) (q:=x) (i0:=s.i0) (i1:=s.i1) (i2:=TT.put s.i2 (i+3) (h.take nb)) zq2 (i+3)
  rw[<- e3]at ej;rw[ej];refine B1 (o5 (aP1 1 (aP1 y aJ4 (D8 (G9 rfl) (aV2 B0) rfl hhl) rfl (λu _=>⟨u,rfl⟩)) B0 rfl (λu0 h=>by cases h;exact⟨_,aJ3 zq2⟩)) rfl (dG5 zq2) (bF8 (L8 B0 (A5 rfl))) ?_ ?_ (k8 rfl rfl c8 c9))
  .rw[Aa3];unfold sizeLine;lia
  have ek:=cW4 (n:=i+4) (q:=y) (i0:=TT.put s.i0 x (s.i0 x++[i+3])) (i1:=s.i1) (i2:=TT.put s.i2 (i+3) (h.take nb)) zq2 (i+3)
  rw[<- e3]at ek;rw[ek];refine J4 rfl (L8 B0 (A5 rfl)) ?_ ⟨.val (.int i),.own [.int (TT.pv F i:Nat),.int (TT.pv G i:Nat)],z8,z9,⟨rfl,rfl,c8,c9⟩,?_⟩ (k8 rfl rfl c8 c9)
  .rw[C9,Ae2,Bm];unfold sizeLine;lia
  rw[hst];simp only[TT.S.step,sk,hh,ex,ey,Bx];rw[e3];unfold rh
  simp[nI]
  rfl
 .rintro _ ⟨x6,x7,c,Y,⟨b6,b7,b8,b9⟩,rfl⟩;have em:(S6 0 (((fl F m).map PyData.int).length:Int).toNat).length=m:=by rw[N3,M];rfl
  rw[em];have GI:=TT.P7 R m (Aa7 _);have Lm:=TT.row_len GI.inv;have I2:=TT.cQ7 R m (Aa7 _);have pl:=GI.p;have hl:=GI.h;have gk:=GI.k;have gle:=GI.le;have gle2:=GI.le2;obtain⟨p,hp⟩:=GI.inv.pe;obtain⟨h,hh⟩:=GI.inv.he;have R2:=dC4 hp hh;have R0:=TT.aO6 (s:=TT.gst F G m);have R1:=TT.bA9 (s:=TT.gst F G m);have RI:∀q,3<=q->q<m+3->(TT.gst F G m).row q=_:=λq h1 h2=>TT.O0 h1 (by rw[gk];exact h2)
  generalize hs:TT.gst F G m=s at Lm I2 pl hl gk hp hh R2 R0 R1 RI k ⊢;rw[gk]at Lm;refine B1 (aF7 (λk ρ=>∃j,j+k+1=s.path.length/\ρ=rh m F G (V2 m s.o0 s.o1 s.o2) (N7 (m+3) s.i0 s.i1 s.i2) (s.path.drop j) (s.h1 j) x6 x7 c Y) ⟨s.path.length-1,0,by rw[hp];simp,rfl⟩ ?_)
  rintro k0 _ ⟨j,U,rfl⟩;refine⟨_,C2 (aB2 (P4 (A3 (G9 rfl) A7)) B0),?_⟩;have el:(nI (s.path.drop j).reverse).length=k0+1:=by rw[C9,Ae2,Bm];lia
  rw[el];by_cases hk:k0=0
  .subst hk;rw[Ab SS]
   have ej:s.path.drop j=[0]:=by
    rw[hp,Ab7]at U;rw[hp,List.drop_append,List.drop_of_length_le (by simp at U;simp[*])]
    have:j-p.length=0:=by simp at U;simp[*]
    rw[this];rfl
   have eh:s.h1 j=(p.reverse++h)++[1]:=by
    unfold TT.S.h1;rw[hp,Ab7]at U;rw[hp,hh,Du (by simp at U;simp[*]),Dq (by simp at U;simp[*])]
    simp
   rw[ej,eh];generalize hq:p.reverse++h=q at R2;have ql:q.length<=3000:=by
    have:=Lm 2
    rw[R2]at this;simp at this;lia
   have ei:s.i2=TT.put s.i2 2 (q.take 0):=by
    funext z;by_cases e:z=2
    .rw[e,TT.D7,I2];rfl
    .rw[TT.D1 e]
   rw[ei];refine B1 (aF7 (λk ρ=>∃j,j+k=q.length/\ρ=rh m F G (V2 m s.o0 s.o1 s.o2) (N7 (m+3) s.i0 s.i1 (TT.put s.i2 2 (q.take j))) [0] ((q++[1]).drop j) x6 x7 c Y) ⟨q.length,0,SS,rfl⟩ ?_)
   rintro k1 _ ⟨J,hj1,rfl⟩;refine⟨_,C2 (aB2 (P4 (A3 (G9 rfl) A7)) B0),?_⟩;have el:(nI ((q++[1]).drop J).reverse).length=k1+1:=by rw[C9,Ae2,Bm];simp;lia
   rw[el];by_cases hk:k1=0
   .subst hk;rw[Ab SS]
    have ej1:J=q.length:=by omega
    subst ej1;rw[Co];refine bO3 (i:=3) rfl (bO3 (i:=2) rfl ?_);rw[cM5,cN9];show W K _ (rh2 m F G (.list ((List.range m).map λj=>lN [s.o0 (j+3),s.o1 (j+3),s.o2 (j+3)])) (.list ((List.range (m+3)).map λz=>.tuple [lN (s.i0 z),lN (s.i1 z),lN (TT.put s.i2 2 q z)])) (nI ([0]).reverse) (nI ((q++[1]).drop q.length).reverse) x6 x7 c Y .no .no .no .no) _
    generalize hiD:(PyData.list ((List.range (m+3)).map λz=>.tuple [lN (s.i0 z),lN (s.i1 z),lN (TT.put s.i2 2 q z)]))=iD
    generalize hoD:(PyData.list ((List.range m).map λj=>lN [s.o0 (j+3),s.o1 (j+3),s.o2 (j+3)]))=oD
    generalize hpD:nI ([0]).reverse=pD;generalize hhD:nI ((q++[1]).drop q.length).reverse=hD;have sqi:sq iD=some ((List.range (m+3)).map λz=>.tuple [lN (s.i0 z),lN (s.i1 z),lN (TT.put s.i2 2 q z)]):=by rw[<- hiD];rfl
    have sqo:sq oD=some ((List.range m).map λj=>lN [s.o0 (j+3),s.o1 (j+3),s.o2 (j+3)]):=by rw[<- hoD];rfl
    have L0:=Lm 0
    have L1:=Lm 1
    have L2':=Lm 2
    rw[R0]at L0;rw[R1]at L1;rw[R2]at L2';simp only[Au,Ab7,Ae2,List.length_nil]at L0 L1 L2';refine B1 (E1 (ds:=[lN (s.row 0)]) (E6 (A3 (EF.toN (S8 (l':=[2]) (EF.e' (S8 (l:=[1]) (EF.e' (E6 (A3 B0 A7))) (D8 (D8 (A5 rfl) B0 sqi (aL2 (q:=0) SS)) B0 rfl rfl) QQ)) (EF.e' (E6 (A3 B0 A7))) QQ) (by rw[R0];simp)) A7)) ?_ (show 10<14 by decide))
    refine B1 (J4 (d:=lN (s.row 1)) rfl (EF.toN (S8 (l':=[0]) (EF.e' (S8 (l:=[2]) (EF.e' (E6 (A3 B0 A7))) (EF.e' (cG4 (D8 (D8 (A5 rfl) B0 sqi (aL2 (q:=1) SS)) B0 rfl rfl))) QQ)) (EF.e' (E6 (A3 B0 A7))) QQ) (by rw[R1];simp)) (by show 1<_;unfold sizeLine;simp) ?_ (cB1 b6 b7 b8 b9 rfl rfl rfl rfl))
    refine B1 (J4 (d:=lN (s.row 2)) rfl (EF.toN (S8 (l':=[1]) (EF.e' (S8 (l:=[0]) (EF.e' (E6 (A3 B0 A7))) (D8 (D8 (A5 rfl) B0 sqi (aL2 (q:=2) SS)) B0 rfl rfl) (by rw[TT.D7];simp;lia))) (EF.e' (E6 (A3 B0 A7))) (by rw[TT.D7];simp;exact aK6)) (by rw[R2,TT.D7];simp)) (by show 2<_;unfold sizeLine;decide) ?_ (cB1 b6 b7 b8 b9 rfl rfl rfl rfl))
    refine B1 (N2 (T4 (A3 (P4 (A3 (A5 rfl) A7) sqo) A7) ?_ ?_) (λv ρ=>∃x11 x12 x13,(x11.nb=true/\x12.nb=true/\x13.nb=true)/\ρ=rh2 m F G oD iD pD hD x6 x7 c Y (.own ((List.range (v+3)).map λz=>lN (s.row z))) x11 x12 x13) ⟨.no,.no,.no,⟨rfl,rfl,rfl⟩,rfl⟩ ?_ ?_)
    .simp <;> omega
    .simp <;> lia
    .rintro v d _ X ⟨x11,x12,x13,⟨b11,b12,b13⟩,rfl⟩;obtain⟨rfl,hv⟩:=T2 X;have hv:v<m:=by simpa using hv
     have e3:(3:Int)+v=((v+3:Nat):Int):=by lia
     have i2v:TT.put s.i2 2 q (v+3)=s.i2 (v+3):=TT.D1 LL
     have Rv:=RI (v+3) SS XX
     have Lv:=Lm (v+3)
     rw[Rv]at Lv;simp only[Au,Ab7,Ae2]at Lv;refine⟨_,B6,?_⟩;refine B1 (F3 (d:=.tuple [lN (s.i0 (v+3)),lN (s.i1 (v+3)),lN (s.i2 (v+3))]) (D8 (A5 rfl) (L8 B0 (A5 rfl)) sqi ?_) ?_)
     .rw[e3,aL2 XX,i2v]
     refine B1 (E1 (S8 (EF.e' (S8 (l':=[s.o1 (v+3)]) (EF.e' (S8 (l:=[s.o0 (v+3)]) (EF.e' (E6 (A3 (D8 (D8 (A5 rfl) (A5 rfl) sqo (aL2 hv)) B0 rfl rfl) A7) (show 1<=16777216 by decide))) (D8 (A5 rfl) B0 rfl rfl) QQ))
      (EF.e' (E6 (A3 (D8 (D8 (A5 rfl) (A5 rfl) sqo (aL2 hv)) B0 rfl rfl) A7) (show 1<=16777216 by decide))) QQ)) (D8 (A5 rfl) B0 rfl rfl) QQ) ?_ (show 13<14 by decide))
     refine J4 (d:=lN (s.row (v+3))) rfl (EF.toN (S8 (EF.e' (S8 (l':=[s.o2 (v+3)]) (G9 rfl) (EF.e' (E6 (A3 (D8 (D8 (A5 rfl) (A5 rfl) sqo (aL2 hv)) B0 rfl rfl) A7) (show 1<=16777216 by decide))) QQ))
      (EF.e' (cG4 (D8 (A5 rfl) B0 rfl rfl))) QQ) (by rw[Rv];simp)) ?_ ⟨.val (.int v),.val (.tuple [lN (s.i0 (v+3)),lN (s.i1 (v+3)),lN (s.i2 (v+3))]),.own (nI ([s.o0 (v+3)]++s.i2 (v+3)++[s.o1 (v+3)]++s.i0 (v+3))),⟨rfl,rfl,rfl⟩,?_⟩ (cB1 b6 b7 b8 b9 rfl rfl rfl rfl)
     .rw[Aa3,Cd];unfold sizeLine;lia
     .have er:(List.range (v+3)).map (λz=>lN (s.row z))++[lN (s.row (v+3))]=(List.range (v+1+3)).map λz=>lN (s.row z):=by
       rw[show v+1+3=(v+3)+1 by rfl,Bq (n:=v+3),Ad2];rfl
      rw[er];rfl
    rintro _ ⟨x11,x12,x13,⟨b11,b12,b13⟩,rfl⟩;rw[N3];have e4:((((List.range m).map λj=>lN [s.o0 (j+3),s.o1 (j+3),s.o2 (j+3)]).length:Int)).toNat=m:=by simp
    rw[e4];exact bH6 (i:=10) rfl (K0 (G0 (A3 (A5 rfl) (A3 (A5 rfl) A7))) (by rw[<- hoD]))
   .have X:decide (((k1+1:Nat):Int)>1)=true:=by simp;lia
    rw[X,Ac rfl];have hlt:J<q.length:=by lia
    have e1:(q++[1]).drop J=q[J]::(q++[1]).drop (J+1):=by
     rw[Bu (by simp;exact zq2),List.getElem_append_left hlt]
    have e2:=Cc hlt
    refine cB7 (d:=.int (q[J]:Nat)) (aP1 2 (aP1 2 aJ4 B0 rfl (λu _=>⟨u,rfl⟩)) B0 rfl (λu0 h=>by cases h;exact⟨_,aJ3 SS⟩))
     (bN7 ?_ (k8 b6 b7 b8 b9)) DD ⟨_,rfl,rfl⟩ rfl rfl (cH6 SS) ?_ ⟨k1-1,LL,J+1,LL,?_⟩ (k8 (m:=m) (F:=F) (o:=V2 m s.o0 s.o1 s.o2) (i:=N7 (m+3) s.i0 s.i1 (TT.put s.i2 2 (q.take J))) (p:=[0]) (h:=(q++[1]).drop (J+1)) b6 b7 b8 b9)
    .show some (Sl.own (nI ((q++[1]).drop J).reverse))=_
     rw[e1,List.reverse_cons,m5];rfl
    .rw[Aa3,TT.D7,Ad1];unfold sizeLine;lia
    .rw[bR9 SS,cH5,TT.D7,<- e2];rfl
  .have X:decide (((k0+1:Nat):Int)>1)=true:=by simp;lia
   rw[X,Ac rfl];obtain⟨x,hx⟩:∃x,s.path[j]? = some x:=⟨_,Aa2 LL⟩
   have e1:s.path.drop j=x::s.path.drop (j+1):=by
    obtain⟨h1,h2⟩:=Ab0.mp hx;rw[<- h2];exact Bu h1
   have e2:s.h1 (j+1)=x::s.h1 j:=by
    unfold TT.S.h1;obtain⟨h1,h2⟩:=Ab0.mp hx;rw[Cc h1,h2];simp
   refine aS0 (bN7 (d:=.int x) ?_ (k8 b6 b7 b8 b9)) rfl rfl ?_ ⟨k0-1,LL,j+1,LL,?_⟩ (k8 (p:=s.path.drop (j+1)) b6 b7 b8 b9)
   .show some (Sl.own (nI (s.path.drop j).reverse))=_
    rw[e1];simp[nI]
   .rw[C9,Ae2];unfold TT.S.h1 PySem.sizeLine;simp only[Ab7,Ae2,Ad1]
    lia
   .rw[e2];unfold rh
    simp[nI]
end
theorem aV8:B8 ["_law_script", "_law_k"] ["_law_script", "_law_k"] (B3 i8):={}
theorem aH8:B8 ["_law_turn", "_law_at"] ["_law_turn"] (B3 y0):={}
theorem bB0 {K:Frag}(h:∀ds d,pre ds d->ds.length=n):∀vs H Q E,spL K pre vs H Q E->vs.length=n:=by
 rintro vs H Q E ⟨ds,S,d,_,r,p,_⟩;have e:=r.length;rw[e];exact h ds d p
def cl (ns:AF)(k:Int):Int:=(ns[k.toNat]?).getD 0
def dF9 (ds:AG)(d:PyData):Prop:=∃ns k,0<=k/\ds=[lI ns,.int k]/\d=.int (cl ns k)
def bW4 (ds:AG)(d:PyData):Prop:=∃i,ds=[.int i]/\d=.bool true
def tN (l:AD):PyData:=.tuple (nI l)
abbrev tD (d:AA):PyData:=.tuple (d.map tN)
abbrev vD (d:AA):Sl:=.val (tD d)
def cR3 (ds:AG)(d:PyData):Prop:=∃l:AD,l≠[]/\l.length<=10000/\ds=[lN l]/\d=tN (TT.W2 l)
theorem o7 (M:Nat):∀l:AD,(l.map λ(x:Nat)=>(x:Int)).idxOf (M:Int)=l.idxOf M
 | []=>rfl
 | b::l=>by
  rw[Ac7,List.idxOf_cons,List.idxOf_cons,o7 M l];by_cases e:b=M
  .subst e;simp
  .have e':¬b=(M:Int):=by lia
   have h1:(b==M)=false:=by simpa using e
   have j:(b==(M:Int))=false:=by simpa using e'
   rw[h1,j]
section
variable {P:Program}{w:World}{K:Frag}{mg:Str->Option Value}{base:Heap}{a:Ad}
theorem cJ1 (T:Tx K mg a):J6 P w K mg base CX0 1 a.aC2 a.aB6 ["_law_script", "_law_k"] (spV K dF9):=by
 refine T.T8.F.ok aV8 (S7 (by rintro ds d ⟨_,_,_,rfl,_⟩;rfl)) (λc A e s H vs Q E U h=>?_)
 obtain⟨ds,S,d,m,r,⟨Y,k,X,rfl,rfl⟩,q⟩:=h;refine⟨_,(A6 (N0 (C3 aU3 (pv 1) (B4 M3 RR T.O4 Av (A0 (pv 0) A4)) (E9 _)) (A9 (C0 (B5 D5 (pv 0) (pv 1)))) F0)
   (A9 (C0 A8))),G1 m r ?_ q⟩
 refine B1 (X2 (C2 (aB2 (A5 rfl) (P4 (A3 (A5 rfl) A7)))) (λh=>(K0 (D8 (A5 rfl) (A5 rfl) rfl ?_) rfl)) (λh=>G6 ?_))
 .have h:=Ap h
  rw[Aa3]at h;refine M6 k.toNat LL ?_
  have j:k.toNat<Y.length:=by simp[*]
  rw[Aa9,Aa2 j];unfold cl;rw[Aa2 j];rfl
 have h:=Bl h
 rw[Aa3]at h;refine(K0 B0 ?_);unfold cl;rw[Ad6 YY];rfl
theorem bT5 (T:Tx K mg a):J6 P w K mg base CX0 1 a.aO9 a.aP9 ["_law_turn"] (spV K cR3):=by
 refine T.z5.F.ok aH8 (S7 (by rintro ds d ⟨_,_,_,rfl,_⟩;rfl)) (λM A U s H vs Q E hr h=>?_)
 obtain⟨ds,S,d,D,r,⟨l,X,hl,rfl,rfl⟩,q⟩:=h;refine⟨_,(A6 (psS 1 aH8 (G7 Ab1 PySem.F.slot_list_index PySem.F.type_list_index (cL6 K) (pv 0) (A0 (B4 (bI2 K rfl) RR T.bA8 boot_min (A0 (pv 0) A4)) A4)))
   (A9 (C0 (J9 Q5 RR T.N5 boot_tuple (A0 (B7 (M7 K) (U3 bP7 (pv 0) (Q8 (pv 1)) aF5) (U3 bP7 (pv 0) aF5 (Q8 (pv 1)))) A4))))),G1 D r ?_ q⟩
 obtain⟨j,Y⟩:=TT.aW4 X;have R:lN l=lI (l.map λ(x:Nat)=>x):=by unfold lN lI nI;simp
 have J:((TT.mn l):Int)∈(l.map λ(x:Nat)=>(x:Int))/\∀z∈(l.map λ(x:Nat)=>(x:Int)),((TT.mn l:Nat))<=z:=⟨Aa8.mpr ⟨_,j,rfl⟩,λz hz=>by
  obtain⟨y,B,rfl⟩:=Aa8.mp hz
  have:=Y y B
  simp[*]⟩
 have c:=o7 (TT.mn l) l
 have e:=Cm (Ac4 j)
 refine B1 (F3 (d:=.int (l.idxOf (TT.mn l))) ?_ ?_)
 .have h:=cT2 (K:=K) (m:=true) (ρ:=sl0 ["_law_turn", "_law_at"].length [lI (l.map λ(x:Nat)=>x)]) v0 (dL2 (A3 v0 A7) J) J.1
  rw[c]at h;rw[R];exact h
 refine K0 (V7 (A3 (EF.e' (aS7 (EF.e' (cL2 (A5 rfl) (X4 (A5 rfl)) aR1 (F5 l))) (EF.e' (cL2 (A5 rfl) aR1 (X4 (A5 rfl)) (F5 l))) (W1 _ _ (F5 l)) (W1 _ _ (F5 l)) ?_)) A7) ?_) ?_
 .rw[aT2 (by rw[C9];exact e),aZ0 (by rw[C9];exact e),Bm,Ad1,C9];unfold sizeLine;lia
 .rw[aC9,W1 _ _ (F5 l),W1 _ _ (F5 l)];rfl
 .rw[aT2 (by rw[C9];exact e),aZ0 (by rw[C9];exact e)]
  unfold tN TT.W2 nI
  simp
end
end K37
namespace LV
open PySem L2
section
theorem cP2 (n:Nat)(U:E K true t ρ d)(hi:ρ[i]? = some (.own ds))(J:E K false tb ρ (.int k))(j:k=n)(Q:n<ds.length)(M:R.nx (ρ.set i (.own (ds.set n d))))(nb:O7 ρ=true:=by rfl) :
  W K (aT8 t (dQ4 (F6 i) tb cR6)) ρ R:=λS B D σ H o I s=>by
 refine U S B σ H o I _ λx X Y F=>?_
 obtain⟨p,hp,a,xs,b,c⟩:=(I.grow Y).own i ds hi;refine⟨_,a,?_⟩;refine J S B σ X o (I.grow Y) _ λw P e m=>?_
 cases m
 have hl:=c.length
 exact⟨p,xs,k,n,rfl,rfl,e _ _ b,by unfold ixN;rw[Ac XX,Ac XX];simp[j],(s.nx _ σ _ _ (((I.grow Y).grow e).upd hi hp ((c.mono (K7 e)).set n (F.mono (K7 e))) (K6 nb)) M)⟩
theorem Reps.rep (r:Reps K H xs ds):∀n:Nat,Reps K H (List.replicate n xs).flatten (List.replicate n ds).flatten
 | 0=>.nil
 | n+1=>by
  exact r.append (Reps.rep r n)
theorem bU6 (h:K5 ds=true):∀n:Nat,K5 (List.replicate n ds).flatten=true
 | 0=>rfl
 | n+1=>by rw[Cu,Cs,aC9,h,bU6 h n];rfl
theorem cV5 (X:EF K ta ρ ds)(U:E K false tb ρ (.int k))(hi:K5 ds=true)(h1 : -(2^63)<=k)(Y:k<2^63)(J:ds.length*k.toNat<=sizeLine):EF K (tOp dY4 ta tb) ρ (List.replicate k.toNat ds).flatten:=λS B σ H o I Q q=>
 X S B σ H o I _ λp xs H1 c P m R=>U S B σ H1 o (I.grow c) _ λy F j D=>by
  cases D
  have s:=(R.mono O1).mono j
  exact⟨p,k,xs,rfl,rfl,j _ _ m,h1,Y,by rw[s.length];exact J,λM e=>(q M _ _ (L2.Same.tr (L2.Same.tr c j) (D9 e)) (W6 (L2.Same.tr c j) e) C7 (aD4 (I.grow (L2.Same.tr c j)).lists e (s.rep _) (bU6 hi _)))⟩
end
section
theorem aZ4 {H:Hp}:∀{ts:AC} {vs:List V},Reps K H vs (ts.map tI)->(∀t∈ts,t≠[])->TupsV K H vs ts
 | [],_,r,_=>by cases r;exact trivial
 | t::ts,_,r,h=>by
  cases r with
  | cons a b=>
   refine⟨?_,aZ4 b λt e=>h t (by simp[e])⟩
   cases a with
   | tup s r=>rw[r.ints]at s;exact⟨_,rfl,s,h t SS⟩
theorem aG7 {ts:AC}(r:Reps K H vs (ts.map tI)):∀{q:AD},(∀i∈q,i<vs.length)->Reps K H (q.map λi=>vs.getD i .non) ((q.map λi=>ts.getD i []).map tI)
 | [],_=>.nil
 | i::q,h=>by
  have hi:=h i SS
  have m:=r.length
  rw[Aa3]at m;obtain⟨v,h1,c⟩:=r.get' (i:=i) (d:=tI (ts.getD i [])) (by
   simp[List.getD,Aa2 (show i<ts.length by simp_all)])
  have e:vs.getD i .non=v:=by simp[List.getD,h1]
  rw[Ac7,Ac7,Ac7,e];exact .cons c (aG7 r λj s=>h j (by simp[s]))
theorem p7 {t:TA}{ts ss:AC}(D:A K false t ρ [.list (ts.map tI)])(Y:∀t∈ts,t≠[])(R:ts.length<64)(hp:ss.Perm ts)(P:ss.Pairwise J7) :
  EF K (tCB (λxs H Q=>∃(p:Addr) (ys:List V) (ts:AC),xs=[.ref p]/\SqL K H p ys/\TupsV K H ys ts/\ys.length<64 /\
   ∀a (q:AD),H a=none->q.Perm (List.range ys.length)->(q.map λi=>ts.getD i []).Pairwise J7->Q (.ref a) (upd H a (.lst (q.map λi=>ys.getD i .non)))) t) ρ (ss.map tI):=
 cF5 D (e7 bB5 ss) λH vs Q r q=>by
  cases r with
  | cons a b=>
   cases b
   cases a with
   | @lst p xs _ s r=>
    have B:=r.length
    rw[Aa3]at B;refine⟨p,xs,ts,rfl,s,aZ4 r Y,XX,λa X h1 m J=>q a _ h1 ?_⟩
    have e:(X.map λi=>ts.getD i [])=ss:=by
     have c:(X.map λi=>ts.getD i []).Perm ts:=by
      have U:(X.map λi=>ts.getD i []).Perm ((List.range xs.length).map λi=>ts.getD i []):=m.map _
      have M:(List.range xs.length).map (λi=>ts.getD i [])=ts:=by
       refine List.ext_getElem? λj=>?_
       by_cases F:j<xs.length
       .rw[O5 F];simp[List.getD,Aa2 (show j<ts.length by simp_all)]
       .rw[Ad6 (by simp;exact zq9),Ad6 YY]
      rw[M]at U;exact U
     exact List.Perm.eq_of_pairwise (λa b _ _ h1 m=>aD9 a b h1 m) J P (c.trans hp.symm)
    have:=aG7 r λi hi=>Ab5.mp (m.mem_iff.mp hi)
    rw[e]at this;exact this
end
end LV
namespace K37
open PySem L2 LV PyProof.Rows
theorem bE9:B8 ["_law_cell", "_law_k"] ["_law_cell", "_law_k"] (B3 t7):={}
theorem cW6 (h : -1000000000000000000<i/\i<1000000000000000000)(e : -1000000000000000000<j/\j<1000000000000000000):CMulB i j:=by
 have:(1000000000000000000)<2^512:=by decide
 constructor <;> omega
def mx0 (c k:Int):Int:=(c % 1000000007*(k+3)*48271+(k+1)*(k+5)*69621) % 2147483647
def mx (c k:Int):Int:=mx0 c k*40692 % 2147483399
theorem eC5 (c k:Int):0<=mx0 c k/\mx0 c k<2147483647:=⟨Ci _ DD,Cp _ DD⟩
theorem eH1 (c k:Int):0<=mx c k/\mx c k<2147483399:=⟨Ci _ DD,Cp _ DD⟩
def bS4 (ds:AG)(d:PyData):Prop:=∃c k,(0<=k/\k<=1000)/\ds=[.int c,.int k]/\d=.int (mx c k)
theorem cP8 {x y A B:Int}(h:0<=x/\x<=A)(e:0<=y/\y<=B):0<=x*y/\x*y<=A*B:=⟨Int.mul_nonneg h.1 e.1,Int.mul_le_mul h.2 e.2 e.1 (Int.le_trans h.1 h.2)⟩
section
variable {P:Program}{w:World}{K:Frag}{mg:Str->Option Value}{base:Heap}{a:Ad}
theorem aQ4 (T:Tx K mg a):J6 P w K mg base CX0 1 a.aL7 a.aM3 ["_law_cell", "_law_k"] (spV K bS4):=by
 refine T.T1.F.ok bE9 (S7 (by rintro ds d ⟨_,_,_,rfl,_⟩;rfl)) (λm A e s H vs Q E R h=>?_)
 obtain⟨ds,S,d,Y,r,⟨c,k,⟨M,h1⟩,rfl,rfl⟩,q⟩:=h;have j:0<=c % 1000000007/\c % 1000000007<=1000000007:=⟨Ci _ DD,Int.le_of_lt (Cp _ DD)⟩
 have X:=cP8 j (y:=k+3) (B:=2000) ⟨LL,LL⟩
 have U:=cP8 (x:=k+1) (A:=2000) (y:=k+5) (B:=2000) ⟨LL,LL⟩ ⟨LL,LL⟩
 have J:=eC5 c k
 refine⟨_,(A9 (C0 (B7 Z7 (B7 aQ8 (B7 Z7 (B7 H9 (B7 aQ8 (B7 aQ8 (B7 Z7 (pv 0) A8) (B7 H9 (pv 1) A8)) A8) (B7 aQ8 (B7 aQ8 (B7 H9 (pv 1) A8) (B7 H9 (pv 1) A8)) A8)) A8) A8) A8))),G1 Y r ?_ q⟩;exact K0 (d:=.int (mx c k)) (e_i (e_i (i:=mx0 c k) (e_i (L8 (e_i (e_i (e_i (A5 rfl) B0 DD) (L8 (A5 rfl) B0) (cW6 LL LL)) B0 (cW6 OO DD)) (e_i (e_i (L8 (A5 rfl) B0) (L8 (A5 rfl) B0) (cW6 LL LL)) B0 (cW6 OO DD))) B0 DD) B0 (cW6 LL DD)) B0 DD) rfl
end
end K37
namespace TT
def pk:Nat->Int->AD->AD
 | 0,_,_=>[]
 | n+1,r,l=>l.getD (r % l.length).toNat 0::pk n (r / l.length) (l.eraseIdx (r % l.length).toNat)
theorem cJ8 {r:Int}{l:AD}(h:l≠[]):(r % l.length).toNat<l.length:=by
 have j:=Cv.mpr h
 have h1:=Ci r (b:=l.length) XX
 have e:=Cp r (b:=l.length) XX
 simp[*]
theorem aX9:∀(l:AD) (i:Nat) (h:i<l.length),(l[i]::l.eraseIdx i).Perm l
 | a::l,0,h=>.refl _
 | a::l,i+1,h=>by
  have ih:=aX9 l i (by simpa using h)
  exact(List.Perm.swap _ _ _).trans (ih.cons a)
theorem bK8:∀(n:Nat) (r:Int) (l:AD),l.length=n->(pk n r l).Perm l
 | 0,r,l,h=>by rw[List.length_eq_zero_iff.mp h];exact .nil
 | n+1,r,l,h=>by
  have j:l≠[]:=λe=>by rw[e]at h;simp at h
  have hi:=cJ8 (r:=r) j
  unfold pk;have e:l.getD (r % l.length).toNat 0=l[(r % l.length).toNat]:=by simp[List.getD,Aa2 hi]
  rw[e];have c:=bK8 n (r / l.length) (l.eraseIdx (r % l.length).toNat) (by rw[List.length_eraseIdx_of_lt hi];simp[*])
  exact(c.cons _).trans (aX9 l _ hi)
theorem dY6 (h:l.Perm ((List.range m).map (· + 3))):Nm (m+3) λv=>([0,1,2]++l).getD v 0:=by
 have X:l.length=m:=by rw[h.length_eq];simp
 have M:([0,1,2]++l).Nodup:=by
  have h1:=h.nodup_iff.mpr (Ae0.mpr (Bz.imp λh e=>h YY))
  have c:∀x∈l,3<=x:=λx hx=>by
   obtain⟨y,_,e⟩:=Aa8.mp (h.mem_iff.mp hx)
   lia
  refine Aa4.mpr ⟨DD,h1,λa s b Y e=>?_⟩
  have:=c b Y
  simp at s;lia
 have lt:∀x∈[0,1,2]++l,x<m+3:=λx hx=>by
  rcases Aa0.mp hx with hx | hx
  .simp at hx;lia
  .obtain⟨y,J,e⟩:=Aa8.mp (h.mem_iff.mp hx)
   have:=Ab5.mp J
   lia
 have len:([0,1,2]++l).length=m+3:=by simp[X]
 have at_:∀v,(j:v<m+3)->([0,1,2]++l).getD v 0=([0,1,2]++l)[v]'XX:=λv j=>by rw[Ac0,Aa2 XX];rfl
 refine⟨λv j=>?_,λv w j U e=>?_,rfl,rfl,rfl⟩
 .rw[at_ v j];exact lt _ (Di _)
 .have e:=e
  rw[at_ v j,at_ w U]at e;exact(List.getElem_inj M).mp e
end TT
namespace K37
open PySem L2 LV PyProof.Rows
theorem J0:B8 ["_law_cell", "_law_m", "_law_names_here", "_law_rest", "_law_k", "_law_left", "_law_ranks"] ["_law_cell", "_law_m"] (B3 z7):={}
def rs (c:Int):Nat->Int
 | 0=>c / 2
 | j+1=>rs c j / 4096
def prs (c:Int)(m:Nat):AC:=(List.range m).map λ(k:Nat)=>[mx c (40+(k:Int)),(k:Int)]
def srt (c:Int)(m:Nat):AC:=(prs c m).mergeSort λa b => !HT.s9 b a
def nm (c:Int)(m:Nat):AD:=[0,1,2]++(if c % 2=1 then TT.pk m (rs c m) ((List.range m).map (· + 3)) else(srt c m).map λt=>(t.getD 1 0).toNat+3)
theorem aE2 (c:Int)(m:Nat):(srt c m).Perm (prs c m):=List.mergeSort_perm _ _
theorem cQ8 (c:Int)(m:Nat):(srt c m).Pairwise J7:=by
 have:=List.pairwise_mergeSort (le:=λa b:AF => !HT.s9 b a) (λa b d h1 e=>by
  have:=aG1 a b d (by unfold J7;simpa using h1) (by unfold J7;simpa using e)
  unfold J7 at this;simp[this]) (λa b=>by
  rcases bG6 a b with h | h <;> unfold J7 at h <;> simp[h]) (prs c m)
 refine this.imp λh=>?_
 unfold J7;simpa using h
theorem dY0 (c:Int)(m:Nat):TT.Nm (m+3) λv=>(nm c m).getD v 0:=by
 unfold nm;refine TT.dY6 ?_;split
 .exact TT.bK8 _ _ _ SS
 .refine((aE2 c m).map _).trans ?_
  have:(prs c m).map (λt=>(t.getD 1 0).toNat+3)=(List.range m).map (· + 3):=by
   unfold prs;rw[Ae3];rfl
  rw[this]
theorem dT5 (c:Int)(m:Nat):(nm c m).length=m+3:=by
 unfold nm;split
 .rw[Ab7,(TT.bK8 m (rs c m) _ SS).length_eq];simp;lia
 .rw[Ab7,Aa3,(aE2 c m).length_eq];simp[prs];lia
def cV7 (ds es:AG):Prop:=∃(c:Int) (m:Nat),m<=20/\ds=[.int c,.int (m:Int)]/\es=nI (nm c m)
theorem bJ6 {α β:Type}{f:α->β}:∀(l:List α) (n:Nat),(l.map f).eraseIdx n=(l.eraseIdx n).map f
 | [],n=>rfl
 | a::l,0=>rfl
 | a::l,n+1=>by simp[List.eraseIdx_cons_succ,bJ6 l n]
def f1 (c:Int):PyData->Option PyData
 | .int k=>some (tI [mx c (40+k),k])
 | _=>none
def f2:PyData->Option PyData
 | .tuple [_,.int k]=>some (.int (3+k))
 | _=>none
theorem L9 {α β:Type}{f g:α->Option β}:∀{l:List α},(∀x∈l,f x=g x)->l.filterMap f=l.filterMap g
 | [],_=>rfl
 | a::l,h=>by rw[Be,Be,h a SS,L9 λx e=>h x (by simp[e])]
theorem dR7 (c:Int)(m:Nat):(S6 0 m).filterMap (f1 c)=(prs c m).map tI:=by
 unfold S6 prs;rw[Ba,Ae3,<- List.filterMap_eq_map];refine L9 λx _=>?_
 show f1 c (.int (0+x))=_
 rw[Int.zero_add];rfl
theorem cI4 (h:t∈srt c m):∃k:Nat,t=[mx c (40+(k:Int)),(k:Int)]:=by
 have:=(aE2 c m).mem_iff.mp h
 obtain⟨k,_,e⟩:=Aa8.mp this;exact⟨k,e.symm⟩
theorem dS4 (c:Int)(m:Nat):((srt c m).map tI).filterMap f2=nI ((srt c m).map λt=>(t.getD 1 0).toNat+3):=by
 unfold nI;rw[Ba,Ae3,<- List.filterMap_eq_map];refine L9 λt e=>?_
 obtain⟨k,rfl⟩:=cI4 e;show some (PyData.int (3+k))=some (PyData.int ((((k:Int)).toNat+3:Nat)))
 congr 2
 lia
theorem nd1:(["_law_k", "_law_cell"]:AJ).Nodup:=by decide +kernel
theorem nd2:(["_law_rank"]:AJ).Nodup:=by decide +kernel
section
variable {P:Program}{w:World}{K:Frag}{mg:Str->Option Value}{base:Heap}{a:Ad}
theorem cZ1 (T:Tx K mg a):J6 P w K mg base CX0 2 a.aN6 a.aN5 ["_law_cell", "_law_m"] (spL K cV7):=by
 have Y := @aQ4 P w K mg base a T
 refine T.aL4.F.ok J0 (bB0 (by rintro ds d ⟨_,_,_,rfl,_⟩;rfl)) (λcdv A outer s H vs Q E hr h=>?_)
 obtain⟨ds,S,es,hS,r,⟨c,m,hm,rfl,rfl⟩,q⟩:=h;refine⟨_,(A6 (psS 2 J0 (C4 (A0 A8 (A0 A8 (A0 A8 A4)))))
   (A6 (N0 (C3 aZ6 (B7 Z7 (pv 0) A8) A8 (E9 _)) (A6 (psS 3 J0 (B7 aF8 (pv 0) A8))
   (A6 (J5 Al rfl (K1 rfl T.J8 (A0 (pv 1) A4)) (pgN 4 J0) (A9 (psS 3 J0 (B7 aF8 (pv 3) A8))))
   (A6 (psS 5 J0 (J9 (bE6 rfl) RR T.aJ1 boot_list (A0 (dD0 rfl T.J8 (A0 A8 (A0 (B7 H9 (pv 1) A8) A4))) A4)))
   (A6 (J5 Al rfl (K1 rfl T.J8 (A0 (pv 1) A4)) (pgN 4 J0) (A6 (E4 (G7 Ab1 Ag Af D3 (pv 2) (A0 (G7 Ab1 PySem.F.slot_list_pop PySem.F.type_list_pop cT6 (pv 5) (A0 (B7 Z7 (pv 3) (B4 M3 RR T.O4 Av (A0 (pv 5) A4))) A4)) A4)))
   (A9 (psS 3 J0 (B7 aF8 (pv 3) (B7 H9 (B4 M3 RR T.O4 Av (A0 (pv 5) A4)) A8))))))
   (A9 (C0 (pv 2))))))) F0)
   (A6 (psS 6 J0 (B4 (L5 K) RR T.L4 boot_sorted (A0 (K2 (T:=["_law_k"]) (is:=[0]) rfl (.of rfl) (K1 rfl T.J8 (A0 (pv 1) A4)) (G3 DD) λ_ _ _ _=>⟨(E2 (i:=0) nd1 rfl (Or.inl rfl)),K9,(D0 (A0 (pcl Y hr T.T1 (A0 (pv 1) (A0 (B7 H9 A8 (pv 0)) A4))) (A0 (pv 0) A4)))⟩) A4)))
   (A9 (C0 (B7 (M7 K) (pv 2) (K2 (T:=["_law_rank"]) (is:=[]) rfl (.of rfl rfl rfl trivial rfl rfl rfl trivial) (O2 (pv 6)) (G3 DD) λ_ _ _ _=>⟨(E2 (i:=0) nd2 rfl (Or.inl rfl)),K9,(B7 H9 A8 (B5 (ixK K) (pv 0) A8))⟩))))))),Y9 hS r ?_ q⟩
 refine B1 (E1 (E6 (A3 B0 (A3 B0 (A3 B0 A7)))) ?_ (show 2<7 by decide))
 refine B1 (X2 (C2 (aA3 (e_i (A5 rfl) B0 DD) B0)) (λh=>?_) (λh=>G6 ?_))
 .have h:=Ap h
  refine B1 (F3 (e_i (A5 rfl) B0 ⟨DD,DD⟩) ?_)
  refine B1 (N2 (T4 (A3 (A5 rfl) A7) ?_ ?_) (λj ρ=>∃U,U.nb=true/\ρ=[vI c,vI m,.own (nI [0,1,2]),vI (rs c j),U,.no,.no]) ⟨.no,rfl,rfl⟩ ?_ ?_)
  .simp
  .lia
  .rintro j d _ D ⟨U,b4,rfl⟩;obtain⟨rfl,hj⟩:=T2 D;refine⟨_,B6,?_⟩;exact F3 (e_i (A5 rfl) B0 ⟨DD,DD⟩) ⟨.val (.int j),rfl,rfl⟩
  rintro _ ⟨U,b4,rfl⟩;rw[N3,Ac8];refine B1 (E1 (ds:=nI ((List.range m).map (· + 3))) ?_ ?_ (show 5<7 by decide))
  .have:=dX0 (K:=K) (ρ:=[vI c,vI m,.own (nI [0,1,2]),vI (rs c m),U,.no,.no]) (i:=3) (j:=m+3) (A3 B0 (A3 (L8 v1 B0) A7)) LL
   have e:S6 3 ((m:Int)+3-3).toNat=nI ((List.range m).map (· + 3)):=by
    have e':((m:Int)+3-3).toNat=m:=by simp
    rw[e'];unfold S6 nI;rw[Ae3];refine Bj λx _=>?_
    show PyData.int (3+x)=PyData.int ((x+3):Int)
    congr 1;lia
   rw[e]at this;exact this
  refine B1 (N2 (T4 (A3 (A5 rfl) A7) ?_ ?_) (λj ρ=>∃U pre l r,U.nb=true/\TT.pk m (rs c m) ((List.range m).map (· + 3))=pre++TT.pk (m-j) r l/\l.length=m-j/\pre.length<=j/\ρ=[vI c,vI m,.own (nI ([0,1,2]++pre)),vI r,U,.own (nI l),.no]) ⟨U,[],(List.range m).map (· + 3),rs c m,b4,SS,SS,SS,rfl⟩ ?_ ?_)
  .simp
  .lia
  .rintro j d _ D ⟨U,pre,l,M,b4,J,B,hpl,rfl⟩;obtain⟨rfl,hj⟩:=T2 D;have hj:j<m:=by assumption
   have hne:l≠[]:=λe=>by rw[e]at B;simp at B;lia
   have hpos:=Cv.mpr hne
   have X:=TT.cJ8 (r:=M) hne
   have hnn:=Ci M (b:=l.length) LL
   generalize hn:(M % l.length).toNat=n at X;refine⟨_,B6,?_⟩;refine B1 (aS0 (d:=.int (l[n])) (dA3 n rfl (e_i (A5 rfl) (P4 (A3 (G9 rfl) A7)) ?_) ?_ ?_ ?_) rfl rfl ?_ ?_)
   .rw[C9];simp_all
   .rw[C9,<- hn];lia
   .unfold nI;rw[Aa9,Aa2 X];rfl
   .lia
   .rw[C9];simp;unfold sizeLine;lia
   have el:(nI l).eraseIdx n=nI (l.eraseIdx n):=by unfold nI;rw[bJ6]
   have el2:((nI (l.eraseIdx n)).length:Int)+1=l.length:=by rw[C9,List.length_eraseIdx_of_lt X];lia
   have ea:nI ([0,1,2]++pre)++[PyData.int (l[n])]=nI ([0,1,2]++(pre++[l[n]])):=by simp[nI]
   rw[el,ea];refine F3 ?_ ⟨.val (.int j),pre++[l[n]],l.eraseIdx n,M / l.length,rfl,?_,?_,?_,rfl⟩
   .rw[<- el2];exact e_i (A5 rfl) (L8 (P4 (A3 (G9 rfl) A7)) B0) ⟨SS,LL⟩
   .rw[J];obtain⟨k,hk⟩:∃k,m-j=k+1:=⟨m-j-1,LL⟩
    have hk':m-(j+1)=k:=by lia
    rw[hk,hk'];show pre++(l.getD (M % l.length).toNat 0::TT.pk k (M / l.length) (l.eraseIdx (M % l.length).toNat))=_;rw[hn,Ac0,Aa2 X]
    simp
   .rw[List.length_eraseIdx_of_lt X];lia
   .simp;omega
  rintro _ ⟨U,pre,l,M,b4,J,B,hpl,rfl⟩;rw[N3,Ac8,Nat.sub_self]at J;refine bQ3 rfl ?_;unfold nm;rw[Ac h,J];simp[TT.pk]
 have h:=Bl h
 have hsl:(srt c m).length=m:=by rw[(aE2 c m).length_eq];simp[prs]
 have c1:=F8 (m:=true) (ρ:=[vI c,vI m,.own (nI [0,1,2]),.no,.no,.no,.no]) (n:=1) (is:=[0]) (g:=F4 0)
  (te:=bQ4 (E8 (o6 (spV K bS4) [] E0 (E8 (F6 1) (E8 (tOp (rI0 λi j=>V.int (i+j)) (tC (.int 40)) (F6 0)) R3))) (E8 (F6 0) R3))) (f1 c) (T4 (A3 v1 A7) SS LL) (by rw[N3];unfold sizeLine;exact aH7) (λd D=>by
   obtain⟨i,hi⟩:=List.mem_iff_getElem?.mp D;obtain⟨rfl,hi⟩:=T2 hi;have hi:i<m:=by assumption
   exact⟨_,B6,Z9,G0 (A3 (C6 (A3 (A5 rfl) (A3 (L8 B0 (A5 rfl)) A7)) ⟨c,40+i,LL,rfl,rfl⟩) (A3 (A5 rfl) A7))⟩)
 rw[Ac8,dR7]at c1;refine B1 (E1 (p7 (A3 (EF.e' c1) A7) (λt ht=>?_) ?_ (aE2 c m) (cQ8 c m)) ?_ (show 6<7 by decide))
 .obtain⟨k,_,rfl⟩:=Aa8.mp ht;simp
 .simp[prs];exact aH7
 have c2:=F8 (ρ:=[vI c,vI m,.own (nI [0,1,2]),.no,.no,.no,.own ((srt c m).map tI)]) (n:=1) (is:=[]) (g:=F4 0)
  (te:=tOp (rI0 λi j=>V.int (i+j)) (tC (.int 3)) (tOp (rIx K) (F6 0) (tC (.int 1)))) f2 (T7 (G9 (i:=6) rfl)) (by rw[Aa3,hsl];unfold sizeLine;exact aH7) (λd D=>by
   obtain⟨t,ht,rfl⟩:=Aa8.mp D;obtain⟨k,rfl⟩:=cI4 ht;exact⟨_,B6,Z9,L8 B0 (D8 (aN9 rfl) B0 rfl rfl)⟩)
 rw[dS4]at c2
 have:=aE6 (R:={nx:=λ_=>False,rl:=λe=>e=nI (nm c m)}) (aS7 (G9 (i:=2) rfl) (EF.e' c2) (F5 _) (F5 _) (by rw[C9,C9,Aa3,hsl];unfold sizeLine;simp;lia)) (by
  unfold nm;rw[Ab h,<- m5])
 exact this
end
end K37
namespace TT
def pfg (N:Nat->Int):Nat->Nat×Nat
 | 0=>(0,0)
 | j+1=>((pfg N j).1+(N j % ((j:Int)+1-(pfg N j).1)).toNat,(pfg N j).2+(N j / 64 % ((((pfg N j).1+(N j % ((j:Int)+1-(pfg N j).1)).toNat:Nat):Int)+1-(pfg N j).2)).toNat)
def rF (N:Nat->Int)(j:Nat):Nat:=(pfg N (j+1)).1
def rG (N:Nat->Int)(j:Nat):Nat:=(pfg N (j+1)).2
theorem dY1 (N:Nat->Int):∀j,pv (rF N) j=(pfg N j).1
 | 0=>rfl
 | _+1=>rfl
theorem eD5 (N:Nat->Int):∀j,pv (rG N) j=(pfg N j).2
 | 0=>rfl
 | _+1=>rfl
theorem bR5 (N:Nat->Int)(j:Nat):rF N j=(pfg N j).1+(N j % ((j:Int)+1-(pfg N j).1)).toNat:=rfl
theorem cU3 (N:Nat->Int)(j:Nat):rG N j=(pfg N j).2+(N j / 64 % ((rF N j:Int)+1-(pfg N j).2)).toNat:=rfl
theorem bO7 (N:Nat->Int):∀j,(pfg N j).1<=j/\(pfg N j).2<=(pfg N j).1/\(pfg N (j+1)).1<=j/\(pfg N (j+1)).2<=(pfg N (j+1)).1
 | j=>by
  have base:(pfg N j).1<=j/\(pfg N j).2<=(pfg N j).1:=by
   cases j with
   | zero=>exact⟨Aa7 _,Aa7 _⟩
   | succ i=>
    have:=bO7 N i
    exact⟨LL,this.2.2.2⟩
  have h1:rF N j<=j:=by
   rw[bR5];have h:=Cp (N j) (b:=j+1-(pfg N j).1) LL
   have e:=Ci (N j) (b:=j+1-(pfg N j).1) LL
   lia
  have s:(pfg N j).1<=rF N j:=by rw[bR5];simp
  have c:rG N j<=rF N j:=by
   rw[cU3];have h:=Cp (N j / 64) (b:=(rF N j)+1-(pfg N j).2) LL
   have e:=Ci (N j / 64) (b:=(rF N j)+1-(pfg N j).2) LL
   lia
  exact⟨base.1,base.2,h1,c⟩
theorem u5 (N:Nat->Int)(m:Nat):Rws (rF N) (rG N) m where
 f1:=λi _=>by rw[dY1,bR5];simp
 f2:=λi _=>(bO7 N i).2.2.1
 g1:=λi _=>by rw[eD5,cU3];simp
 g2:=λi _=>(bO7 N i).2.2.2
end TT
namespace K37
open PySem L2 LV PyProof.Rows
theorem sc__law_built:B8 ["_law_cell", "_law_cells", "_law_m", "_law_first", "_law_second", "_law_rest", "_law_i", "_law_number", "_law_low", "_law_turns", "_law_outs", "_law_names_here", "_law_called", "_law_triples", "_law_v"] ["_law_cell", "_law_cells", "_law_m"] (B3 y6):={}
def rr (c:Int)(j:Nat):Int:=if c % 2=1 then rs c j else c / 2
def nu (c:Int)(cells:AF)(j:Nat):Int:=if c % 2=1 then rs c j % 4096 else mx (cl cells j) j
def nf (c:Int)(m:Nat)(v:Nat):Nat:=(nm c m).getD v 0
def cR0 (ds:AG)(d:PyData):Prop:=∃(c:Int) (cells:AF) (m:Nat) (dr tr:AA),m<=7/\TT.Bt (TT.rF (nu c cells)) (TT.rG (nu c cells)) m (nf c m) dr tr/\ds=[.int c,lI cells,.int (m:Int)]/\d=.tuple [tD dr,tD tr]
def rb (c:Int)(cells:AF)(m:Nat)(f g:AF)(r:Int)(x6 x7 x8:Sl):List Sl:=[vI c,.val (lI cells),vI (m:Int),.own (f.map PyData.int),.own (g.map PyData.int),vI r,x6,x7,x8,.no,.no,.no,.no,.no,.no]
theorem dN8 (e:x6.nb=true)(j:x7.nb=true)(s:x8.nb=true):O7 (rb c cells m f g r x6 x7 x8)=true:=by
 unfold rb;simp only[w5,e,j,s,Bool.true_and];rfl
theorem aX5 (F:Nat->Nat)(j:Nat):fl F (j+1)=fl F j++[(F j:Int)]:=by simp[fl,Bq]
def rc (c:Int)(cells:AF)(m:Nat)(x3 x4 r:PyData)(x6 x7 x8:Sl)(tD oD:PyData)(nmD L T:AG)(x14:Sl):List Sl:=[vI c,.val (lI cells),vI (m:Int),.val x3,.val x4,.val r,x6,x7,x8,.val tD,.val oD,.own nmD,.own L,.own T,x14]
theorem dK1 {tD oD:PyData}{nmD L T:AG}(j:x6.nb=true)(s:x7.nb=true)(Y:x8.nb=true)(e:x14.nb=true):O7 (rc c cells m x3 x4 r x6 x7 x8 tD oD nmD L T x14)=true:=by
 unfold rc;simp only[w5,j,s,Y,e,Bool.true_and];rfl
def f3 (f:Nat->Nat):PyData->Option PyData
 | .int k=>some (.int (f k.toNat:Nat))
 | _=>none
theorem cU4 (f:Nat->Nat)(l:AD):(nI l).filterMap (f3 f)=nI (l.map f):=by
 unfold nI;rw[Ba,Ae3,<- List.filterMap_eq_map];exact L9 λx _=>rfl
theorem bA5 {α:Type}(a:α):∀n:Nat,(List.replicate n [a]).flatten=List.replicate n a
 | 0=>rfl
 | n+1=>by rw[Cu,Cs,bA5 a n];rfl
theorem EF.to {K:Frag}(h:LV.EF K t ρ ds)(e:ds=es):LV.EF K t ρ es:=e▸h
theorem dP4 {F G:Nat->Nat}(R:TT.Rws F G m)(s:v<m+3):(TT.gst F G m).row v≠[]:=by
 have e:=TT.P7 R m (Aa7 _)
 obtain⟨p,hp⟩:=e.inv.pe;by_cases j:v=0
 .subst j;rw[TT.aO6];simp
 .by_cases h1:v=1
  .subst h1;rw[TT.bA9];simp
  .by_cases c:v=2
   .subst c;rw[TT.aL3,hp];simp
   .rw[TT.O0 LL (by rw[e.k];exact s)];simp
theorem cE6 {m p:Nat}(h:p<m+3):atI (nI (nm c m)) (p:Int)=some (.int (nf c m p:Nat)):=by
 refine M6 p rfl ?_;unfold nI nf;rw[Aa9,Ac0,Aa2 (by rw[dT5];exact h)];rfl
theorem bV7 {L:AG}{f:Nat->Nat}{n j:Nat}{g:Nat->PyData}(c:f j<L.length)(inj:∀v,v<j->f v≠f j)(h:∀v,v<j->L[f v]? = some (g v))(s:x=g j):∀v,v<j+1->(L.set (f j) x)[f v]? = some (g v):=λv m=>by
 by_cases e:v=j
 .subst e;rw[Bg c,s]
 .rw[Ad0 (λz=>inj v LL z.symm)];exact h v LL
theorem aX7 (e:imm x=true):∀{L:AG} (n:Nat),K5 L=true->K5 (L.set n x)=true
 | [],_,h=>h
 | a::L,0,h=>by simp[K5]at h ⊢;exact⟨e,h.2⟩
 | a::L,n+1,h=>by simp[K5]at h ⊢;exact⟨h.1,aX7 e n h.2⟩
theorem bY7 (l:AD):imm (tN l)=true:=by unfold tN;simp[imm,F5]
theorem nd3:(["_law_place", "_law_names_here"]:AJ).Nodup:=by decide +kernel
section
variable {P:Program}{w:World}{K:Frag}{mg:Str->Option Value}{base:Heap}{a:Ad}
theorem cT3 (T:Tx K mg a):J6 P w K mg base CX0 3 a.aP7 a.aO5 ["_law_cell", "_law_cells", "_law_m"] (spV K cR0):=by
 have R := @aQ4 P w K mg base a T
 have U := @cJ1 P w K mg base a T
 have M := @cO4 P w K mg base a T
 have D := @cZ1 P w K mg base a T
 have J := @bT5 P w K mg base a T
 refine T.aM2.F.ok sc__law_built (S7 (by rintro ds d ⟨_,_,_,_,_,_,_,rfl,_⟩;rfl)) (λcdv A outer s H vs Q E hr h=>?_)
 obtain⟨ds,S,d,hS,r,⟨c,Y,m,dr,tr,hm,B,rfl,rfl⟩,q⟩:=h;refine⟨_,(A6 (psS 3 sc__law_built (C4 A4))
   (A6 (psS 4 sc__law_built (C4 A4))
   (A6 (psS 5 sc__law_built (B7 aF8 (pv 0) A8))
   (A6 (J5 Al rfl (K1 rfl T.J8 (A0 (pv 2) A4)) (pgN 6 sc__law_built) (A6 (psS 7 sc__law_built (pcl R hr T.T1 (A0 (pcl U hr T.T8 (A0 (pv 1) (A0 (pv 6) A4))) (A0 (pv 6) A4))))
   (A6 (N0 (C3 aZ6 (B7 Z7 (pv 0) A8) A8 (E9 _)) (A6 (psS 7 sc__law_built (B7 Z7 (pv 5) A8))
   (A9 (psS 5 sc__law_built (B7 aF8 (pv 5) A8)))) F0)
   (A6 (psS 8 sc__law_built (bS1 (C3 aI9 (pv 6) A8 (E9 _)) (B5 D5 (pv 3) (aU8 aE0 A8)) A8))
   (A6 (E4 (G7 Ab1 Ag Af D3 (pv 3) (A0 (B7 H9 (pv 8) (B7 Z7 (pv 7) (B7 Q2 (B7 H9 (pv 6) A8) (pv 8)))) A4)))
   (A6 (psS 8 sc__law_built (bS1 (C3 aI9 (pv 6) A8 (E9 _)) (B5 D5 (pv 4) (aU8 aE0 A8)) A8))
   (A9 (E4 (G7 Ab1 Ag Af D3 (pv 4) (A0 (B7 H9 (pv 8) (B7 Z7 (B7 aF8 (pv 7) A8) (B7 Q2 (B7 H9 (B5 D5 (pv 3) (aU8 aE0 A8)) A8) (pv 8)))) A4))))))))))
   (A6 (aS2 (pcl M hr T.aK9 (A0 (pv 3) (A0 (pv 4) A4))) (i9 rfl (E7 (pgN 9 sc__law_built) (E7 (pgN 10 sc__law_built) T3))))
   (A6 (aC3 (i:=11) sc__law_built.nd rfl (Or.inr rfl) (pcl D hr T.aL4 (A0 (pv 0) (A0 (pv 2) A4))))
   (A6 (psS 12 sc__law_built (B7 cS8 (C4 (A0 (D0 A4) A4)) (B7 H9 (pv 2) A8)))
   (A6 (psS 13 sc__law_built (B7 cS8 (C4 (A0 (D0 A4) A4)) (pv 2)))
   (A6 (J5 Al rfl (K1 rfl T.J8 (A0 (B7 H9 (pv 2) A8) A4)) (pgN 14 sc__law_built) (A9 (aS2 (pcl J hr T.z5 (A0 (K2 (T:=["_law_place"]) (is:=[11]) rfl (.of rfl) (O2 (B5 D5 (pv 9) (pv 14))) (G3 DD) λ_ _ _ _=>⟨(E2 (i:=0) nd3 rfl (Or.inl rfl)),K9,(B5 (ixK K) (pv 1) (pv 0))⟩) A4)) (cB4 (pv 12) (B5 D5 (pv 11) (pv 14)) bA1))))
   (A6 (J5 Al rfl (K1 rfl T.J8 (A0 (pv 2) A4)) (pgN 14 sc__law_built) (A9 (aS2 (J9 Q5 RR T.N5 boot_tuple (A0 (K2 (T:=["_law_place"]) (is:=[11]) rfl (.of rfl) (O2 (B5 D5 (pv 10) (pv 14))) (G3 DD) λ_ _ _ _=>⟨(E2 (i:=0) nd3 rfl (Or.inl rfl)),K9,(B5 (ixK K) (pv 1) (pv 0))⟩) A4)) (cB4 (pv 13) (B7 Q2 (B5 D5 (pv 11) (B7 H9 A8 (pv 14))) A8) bA1))))
   (A9 (C0 (D0 (A0 (J9 Q5 RR T.N5 boot_tuple (A0 (pv 12) A4)) (A0 (J9 Q5 RR T.N5 boot_tuple (A0 (pv 13) A4)) A4))))))))))))))),G1 hS r ?_ q⟩
 generalize hN:nu c Y=N at B;refine B1 (E1 (E6 A7) ?_ (show 3<15 by decide))
 refine B1 (E1 (E6 A7) ?_ (show 4<15 by decide))
 refine B1 (F3 (e_i (A5 rfl) B0 ⟨DD,DD⟩) ?_)
 have r0:rr c 0=c / 2:=by unfold rr rs;split <;> rfl
 rw[<- r0];refine B1 (N2 (T4 (A3 (A5 rfl) A7) ?_ ?_) (λj ρ=>∃x6 x7 x8,(x6.nb=true/\x7.nb=true/\x8.nb=true)/\ρ=rb c Y m (fl (TT.rF N) j) (fl (TT.rG N) j) (rr c j) x6 x7 x8) ⟨.no,.no,.no,⟨rfl,rfl,rfl⟩,rfl⟩ ?_ ?_)
 .simp
 .lia
 .rintro j d _ hd ⟨x6,x7,x8,⟨b6,b7,b8⟩,rfl⟩;obtain⟨rfl,hj⟩:=T2 hd;have hj:j<m:=by assumption
  have PF:=TT.bO7 N j
  have nuj:N j=nu c Y j:=by rw[hN]
  have nn:0<=N j:=by
   rw[nuj];unfold nu;split
   .exact Ci _ DD
   .exact(eH1 _ _).1
  refine⟨_,B6,?_⟩;refine B1 (F3 (C6 (A3 (C6 (A3 (A5 rfl) (A3 (A5 rfl) A7)) ⟨Y,j,SS,rfl,rfl⟩) (A3 (A5 rfl) A7)) ⟨_,j,LL,rfl,rfl⟩) ?_)
  show W K _ (rb c Y m (fl (TT.rF N) j) (fl (TT.rG N) j) (rr c j) (.val (.int j)) (.val (.int (mx (cl Y j) j))) x8) _
  refine B1 (cH9 (rb c Y m (fl (TT.rF N) j) (fl (TT.rG N) j) (rr c (j+1)) (.val (.int j)) (.val (.int (N j))) x8) (C2 (aA3 (e_i (A5 rfl) B0 DD) B0)) (λh=>B1 (F3 (e_i (A5 rfl) B0 DD) (F3 (e_i (A5 rfl) B0 ⟨DD,DD⟩) ?_))) (λh=>G6 ?_) ?_)
  .have h:=Ap h
   have e1:rr c (j+1)=rr c j / 4096:=by unfold rr;rw[Ac h,Ac h];rfl
   have e2:N j=rr c j % 4096:=by rw[nuj];unfold nu rr;rw[Ac h,Ac h]
   rw[e1,e2];rfl
  .have h:=Bl h
   have e1:rr c (j+1)=rr c j:=by unfold rr;rw[Ab h,Ab h]
   have e2:N j=mx (cl Y j) j:=by rw[nuj];unfold nu;rw[Ab h]
   rw[e1,e2]
  have low:∀(X:Nat->Nat) (p:Nat),p=TT.pv X j->((j:Int)>0->atI ((fl X j).map PyData.int) (-1)=some (.int p)):=λX p hp h=>by
   obtain⟨i,rfl⟩:∃i,j=i+1:=⟨j-1,LL⟩
   rw[aX5,Ad2,hp];exact aM6
  refine B1 (F3 (eB8 (C2 (aB2 (A5 rfl) B0)) (λh=>LV.E.imm (D8 (G9 rfl) (aV2 B0) rfl (low (TT.rF N) _ (TT.dY1 N j).symm (Ap h)))) (λh=>?_)) ?_)
  .have h:¬(j:Int)>0:=Bl h
   have:j=0:=by simp_all
   subst this;exact B0
  have eF:((TT.pfg N j).1)+N j % (j+1-((TT.pfg N j).1))=(TT.rF N j):=by
   rw[TT.bR5]
   have:=Ci (N j) (b:=j+1-(TT.pfg N j).1) LL
   lia
  refine B1 (J4 rfl (L8 (A5 rfl) (e_i (A5 rfl) (L8 (L8 (A5 rfl) B0) (A5 rfl)) LL)) (by rw[Aa3];simp[fl];unfold sizeLine;lia) ?_ (dN8 rfl rfl rfl))
  rw[eF];have eF2:(fl (TT.rF N) j).map PyData.int++[PyData.int (TT.rF N j)]=(fl (TT.rF N) (j+1)).map PyData.int:=by rw[aX5];simp
  rw[eF2];refine B1 (F3 (eB8 (C2 (aB2 (A5 rfl) B0)) (λh=>LV.E.imm (D8 (G9 rfl) (aV2 B0) rfl (low (TT.rG N) _ (TT.eD5 N j).symm (Ap h)))) (λh=>?_)) ?_)
  .have h:¬(j:Int)>0:=Bl h
   have:j=0:=by simp_all
   subst this;exact B0
  have rFj:TT.rF N j=(TT.pfg N (j+1)).1:=rfl
  have rFle:(TT.pfg N j).1<=TT.rF N j:=by rw[TT.bR5];simp
  have eG:((TT.pfg N j).2)+N j / 64 % ((TT.rF N j)+1-((TT.pfg N j).2))=(TT.rG N j):=by
   rw[TT.cU3]
   have:=Ci (N j / 64) (b:=(TT.rF N j)+1-(TT.pfg N j).2) LL
   lia
  have hlF:atI ((fl (TT.rF N) (j+1)).map PyData.int) (-1)=some (.int (TT.rF N j)):=by rw[aX5,Ad2];exact aM6
  refine J4 rfl (L8 (A5 rfl) (e_i (e_i (A5 rfl) B0 ⟨DD,DD⟩) (L8 (L8 (D8 (G9 rfl) (aV2 B0) rfl hlF) B0) (A5 rfl)) LL)) (by rw[Aa3];simp[fl];unfold sizeLine;lia) ?_ (dN8 rfl rfl rfl)
  rw[eG];have eG2:(fl (TT.rG N) j).map PyData.int++[PyData.int (TT.rG N j)]=(fl (TT.rG N) (j+1)).map PyData.int:=by rw[aX5];simp
  rw[eG2];exact⟨.val (.int j),vI (N j),vI ((TT.pfg N j).2),⟨rfl,rfl,rfl⟩,rfl⟩
 rintro _ ⟨x6,x7,x8,⟨b6,b7,b8⟩,rfl⟩;rw[N3,Ac8];refine bH6 (i:=3) rfl (bH6 (i:=4) rfl ?_);refine B1 (cZ7 (m:=true) (C6 (A3 (A5 rfl) (A3 (A5 rfl) A7)) ⟨TT.rF N,TT.rG N,m,TT.u5 N m,aK6,rfl,rfl⟩) (aD5 (G4 B6 (G4 B6 Z4))) ?_);refine B1 (E1 (M4 (A3 (A5 rfl) (A3 (A5 rfl) A7)) ⟨c,m,aK6,rfl,rfl⟩) ?_ (show 11<15 by decide))
 have ND:=B.N
 have LT:=(TT.P7 (TT.u5 N m) m (Aa7 _)).inv.lt
 have LR:=TT.row_len (TT.P7 (TT.u5 N m) m (Aa7 _)).inv
 rw[(TT.P7 (TT.u5 N m) m (Aa7 _)).k]at LT LR;refine B1 (E1 (ds:=List.replicate (m+3) (.tuple [])) ?_ ?_ (show 12<15 by decide))
 .refine EF.to (cV5 (E6 (A3 (G0 A7) A7)) (L8 (A5 rfl) B0) rfl LL LL ?_) ?_
  .show 1*((m:Int)+3).toNat<=_;unfold sizeLine;lia
  .have e:((m:Int)+3).toNat=m+3:=by rfl
   rw[bA5,e]
 refine B1 (E1 (ds:=List.replicate m (.tuple [])) ?_ ?_ (show 13<15 by decide))
 .refine EF.to (cV5 (E6 (A3 (G0 A7) A7)) (A5 rfl) rfl SS LL ?_) ?_
  .show 1*(m:Int).toNat<=_;unfold sizeLine;lia
  .rw[bA5,Ac8]
 generalize htD:(PyData.list ((List.range (m+3)).map λv=>lN ((TT.gst (TT.rF N) (TT.rG N) m).row v)))=tD
 generalize hoD:(PyData.list ((List.range m).map λv=>lN [(TT.gst (TT.rF N) (TT.rG N) m).o0 (v+3),(TT.gst (TT.rF N) (TT.rG N) m).o1 (v+3),(TT.gst (TT.rF N) (TT.rG N) m).o2 (v+3)]))=oD
 have sqt:sq tD=some ((List.range (m+3)).map λv=>lN ((TT.gst (TT.rF N) (TT.rG N) m).row v)):=by rw[<- htD];rfl
 have sqo:sq oD=some ((List.range m).map λv=>lN [(TT.gst (TT.rF N) (TT.rG N) m).o0 (v+3),(TT.gst (TT.rF N) (TT.rG N) m).o1 (v+3),(TT.gst (TT.rF N) (TT.rG N) m).o2 (v+3)]):=by rw[<- hoD];rfl
 have imr:∀n:Nat,K5 (List.replicate n (PyData.tuple []))=true:=λn=>by
  induction n with
  | zero=>rfl
  | succ n ih=>rw[Cu];simp[K5,ih];rfl
 refine B1 (N2 (T4 (A3 (L8 (A5 rfl) B0) A7) ?_ ?_) (λj ρ=>∃x14 L,x14.nb=true/\L.length=m+3/\K5 L=true/\(∀v,v<j->L[nf c m v]? = some (tN (TT.W2 (((TT.gst (TT.rF N) (TT.rG N) m).row v).map (nf c m)))))/\ρ=rc c Y m (lI (fl (TT.rF N) m)) (lI (fl (TT.rG N) m)) (.int (rr c m)) x6 x7 x8 tD oD (nI (nm c m)) L (List.replicate m (.tuple [])) x14) ⟨.no,_,rfl,SS,imr _,λv hv=>by simp_all,rfl⟩ ?_ ?_)
 .lia
 .lia
 .rintro j d _ hd ⟨x14,L,b14,hL,hiL,hv,rfl⟩;obtain⟨rfl,hj⟩:=T2 hd;have hj:j<m+3:=by assumption
  refine⟨_,B6,?_⟩;have cm:=F8 (m:=true) (ρ:=rc c Y m (lI (fl (TT.rF N) m)) (lI (fl (TT.rG N) m)) (.int (rr c m)) x6 x7 x8 tD oD (nI (nm c m)) L (List.replicate m (.tuple [])) (.val (.int j))) (n:=1) (is:=[11]) (g:=F4 0) (te:=tOp (rIx K) (F6 1) (F6 0)) (f3 (nf c m)) (T7 (D8 (A5 (i:=9) rfl) (A5 (i:=14) rfl) sqt (aL2 hj))) (by rw[C9];have:=LR j;unfold sizeLine;lia) (λd hd=>by
   obtain⟨p,hp,rfl⟩:=Aa8.mp hd;exact⟨_,B6,Z9,LV.E.imm (D8 (aN9 rfl) (A5 rfl) rfl (cE6 (LT j p hp)))⟩)
  rw[cU4]at cm;refine cP2 (nf c m j) (C6 (A3 (EF.e' cm) A7) ⟨_,?_,?_,rfl,rfl⟩) rfl (D8 (G9 rfl) (A5 rfl) rfl (cE6 hj)) rfl ?_ ⟨.val (.int j),L.set (nf c m j) (tN (TT.W2 (((TT.gst (TT.rF N) (TT.rG N) m).row j).map (nf c m)))),rfl,by rw[Dv];exact hL,aX7 (bY7 _) _ hiL,bV7 (n:=0) (by rw[hL];exact ND.lt j hj) (λv hv e=>by have:=ND.inj v j aH5 hj e;simp_all) hv rfl,rfl⟩ (dK1 b6 b7 b8 rfl)
  .intro e;exact dP4 (TT.u5 N m) hj (List.map_eq_nil_iff.mp e)
  .rw[Aa3];have:=LR j;lia
  .rw[hL];exact ND.lt j hj
 rintro _ ⟨x14,L,b14,hL,hiL,hv,rfl⟩;have e3:(S6 0 ((m:Int)+3).toNat).length=m+3:=by rw[N3];rfl
 rw[e3]at hv;refine B1 (N2 (T4 (A3 (A5 rfl) A7) ?_ ?_) (λj ρ=>∃x14 T,x14.nb=true/\T.length=m/\K5 T=true/\(∀v,v<j->T[nf c m (v+3)-3]? = some (tN [nf c m ((TT.gst (TT.rF N) (TT.rG N) m).o0 (v+3)),nf c m ((TT.gst (TT.rF N) (TT.rG N) m).o1 (v+3)),nf c m ((TT.gst (TT.rF N) (TT.rG N) m).o2 (v+3))]))/\ρ=rc c Y m (lI (fl (TT.rF N) m)) (lI (fl (TT.rG N) m)) (.int (rr c m)) x6 x7 x8 tD oD (nI (nm c m)) L T x14) ⟨x14,_,b14,SS,imr _,λv hv=>by simp_all,rfl⟩ ?_ ?_)
 .simp
 .lia
 .rintro j d _ hd ⟨y14,T',c14,hT,hiT,hvT,rfl⟩;obtain⟨rfl,hj⟩:=T2 hd;have hj:j<m:=by assumption
  refine⟨_,B6,?_⟩;have rI:(TT.gst (TT.rF N) (TT.rG N) m).row (j+3)=_:=TT.O0 SS (by rw[(TT.P7 (TT.u5 N m) m (Aa7 _)).k];simp[*])
  have l0:(TT.gst (TT.rF N) (TT.rG N) m).o0 (j+3)<m+3:=LT (j+3) _ (by rw[rI];simp)
  have l1:(TT.gst (TT.rF N) (TT.rG N) m).o1 (j+3)<m+3:=LT (j+3) _ (by rw[rI];simp)
  have l2:(TT.gst (TT.rF N) (TT.rG N) m).o2 (j+3)<m+3:=LT (j+3) _ (by rw[rI];simp)
  have ge3:3<=nf c m (j+3):=by
   have:=ND.lo SS (q:=j+3) XX
   lia
  have lt3:=ND.lt (j+3) XX
  have hat:atI (nI (nm c m)) (3+j)=some (.int (nf c m (j+3))):=by
   rw[show(3:Int)+j=((j+3:Nat)) by lia];exact cE6 XX
  have cm:=F8 (m:=true) (ρ:=rc c Y m (lI (fl (TT.rF N) m)) (lI (fl (TT.rG N) m)) (.int (rr c m)) x6 x7 x8 tD oD (nI (nm c m)) L T' (.val (.int j))) (n:=1) (is:=[11]) (g:=F4 0) (te:=tOp (rIx K) (F6 1) (F6 0)) (f3 (nf c m)) (T7 (D8 (A5 (i:=10) rfl) (A5 (i:=14) rfl) sqo (aL2 hj))) (by rw[C9];show 3<_;unfold sizeLine;simp) (λd hd=>by
   obtain⟨p,hp,rfl⟩:=Aa8.mp hd;have hp:p<m+3:=by
    rcases Aa1.mp hp with rfl | hp
    .exact l0
    .rcases Aa1.mp hp with rfl | hp
     .exact l1
     .rw[Ad8.mp hp];exact l2
   exact⟨_,B6,Z9,LV.E.imm (D8 (aN9 rfl) (A5 rfl) rfl (cE6 hp))⟩)
  rw[cU4]at cm;refine cP2 (nf c m (j+3)-3) (V7 (A3 (EF.e' cm) A7) (F5 _)) rfl (L8 (D8 (G9 rfl) (L8 B0 (A5 rfl)) rfl hat) B0) LL ?_ ⟨.val (.int j),T'.set (nf c m (j+3)-3) (tN [nf c m ((TT.gst (TT.rF N) (TT.rG N) m).o0 (j+3)),nf c m ((TT.gst (TT.rF N) (TT.rG N) m).o1 (j+3)),nf c m ((TT.gst (TT.rF N) (TT.rG N) m).o2 (j+3))]),rfl,by rw[Dv];exact hT,aX7 (bY7 _) _ hiT,bV7 (n:=0) (by rw[hT];lia) (λv hv e=>by
   have e:=e
   have g3:=ND.lo SS (q:=v+3) LL
   have:=ND.inj (v+3) (j+3) LL XX LL
   simp_all) hvT rfl,rfl⟩ (dK1 b6 b7 b8 rfl)
  rw[hT];lia
 rintro _ ⟨y14,T',c14,hT,hiT,hvT,rfl⟩;rw[N3,Ac8]at hvT;refine K0 (G0 (A3 (V7 (A3 (G9 rfl) A7) hiL) (A3 (V7 (A3 (G9 rfl) A7) hiT) A7))) ?_;have eL:L=dr.map tN:=by
  refine List.ext_getElem? λz=>?_
  by_cases hz:z<m+3
  .obtain⟨v,hv1,rfl⟩:=ND.surj z hz;rw[hv v hv1,Aa9,B.dr v hv1];rfl
  .rw[Ad6 YY,Ad6 (by rw[Aa3,B.dl];simp_all)]
 have eT:T'=tr.map tN:=by
  refine List.ext_getElem? λz=>?_
  by_cases hz:z<m
  .obtain⟨v,hv1,hv2⟩:=ND.surj (z+3) XX
   have h3:3<=v:=by
    have:=ND.lo SS hv1
    lia
   obtain⟨u,rfl⟩:∃u,v=u+3:=⟨v-3,XX⟩
   have hzz:z=nf c m (u+3)-3:=by simp[*]
   rw[hzz,hvT u LL,Aa9,B.tr (u+3) h3 hv1];rfl
  .rw[Ad6 YY,Ad6 (by rw[Aa3,B.tl];simp_all)]
 rw[eL,eT]
end
theorem dX2 {F G:Nat->Nat}(R:TT.Rws F G m)(N:TT.Nm (m+3) f):∃dr tr,TT.Bt F G m f dr tr:=by
 have c:∀q,∃v,q<m+3->v<m+3/\f v=q:=λq=>by
  by_cases h:q<m+3
  .obtain⟨v,h1,X⟩:=N.surj q h;exact⟨v,λ_=>⟨h1,X⟩⟩
  .exact⟨0,λz=>absurd z h⟩
 have ⟨g,Y⟩:∃g:Nat->Nat,∀q,q<m+3->g q<m+3/\f (g q)=q:=⟨λq=>Classical.choose (c q),λq h=>Classical.choose_spec (c q) h⟩
 have s:=λv j=>N.inj _ _ (Y _ (N.lt v j)).1 j (Y _ (N.lt v j)).2
 refine⟨(List.range (m+3)).map λq=>TT.W2 (((TT.gst F G m).row (g q)).map f),(List.range m).map λq=>[f ((TT.gst F G m).o0 (g (q+3))),f ((TT.gst F G m).o1 (g (q+3))),f ((TT.gst F G m).o2 (g (q+3)))],R,N,SS,λv j=>?_,SS,λv U j=>?_⟩
 .rw[O5 (N.lt v j),s v j]
 .have h:=N.lo SS j
  have J:=N.lt v j
  rw[O5 LL]
  have e:f v-3+3=f v:=by lia
  rw[e,s v j]
end K37
namespace TT
end TT
namespace LV
open PySem PyProof.Rows L2
theorem bE2 {α:Type}[DecidableEq α]:∀{l m:List α},l.Nodup->(∀x∈l,x∈m)->l.length<=m.length
 | [],_,_,_=>Br _
 | a::l,m,nd,h=>by
  obtain⟨h1,s⟩:=Aa5.mp nd;have j:=h a SS
  have:=bE2 s λx c=>(List.mem_erase_of_ne (show x≠a from λe=>h1 (by rw[<- e];exact c))).mpr (h x (by simp[c]))
  rw[Cq j]at this
  have:=Cz j
  simp;lia
end LV
namespace TT
end TT
namespace K37
open PySem L2 LV PyProof.Rows
theorem dF3:B8 ["drawing", "p", "q"] ["drawing", "p", "q"] (B3 cC5):={}
theorem aU0 (l:AD):tN l=tI (l.map λ(x:Nat)=>(x:Int)):=by unfold tN tI nI;simp
structure Dw (m:Nat)(dr tr:AA):Prop where
 m7:m<=7
 bt:∃F G f,TT.Bt F G m f dr tr
theorem Dw.len (h:Dw m dr tr):dr.length=m+3:=by
 obtain⟨_,_,_,_,B⟩:=h;exact B.dl
theorem bL4 (h:p<dr.length):dr[p]? = some (TT.trn dr p):=by
 unfold TT.trn;rw[Aa2 h];rfl
def pD (x:Int×Int):PyData:=tI [x.1,x.2]
theorem bZ6 (x y:Int×Int):PyData.eqv (pD x) (pD y)=decide (x=y):=by
 unfold pD;rw[aC4];refine Bc.mpr ?_;constructor
 .intro h;simp at h;exact Prod.ext h.1 h.2
 .rintro rfl;rfl
theorem dR9 (x:Int×Int):imm (pD x)=true:=bB5 _
theorem T6 (ps:List (Int×Int)):K5 (ps.map pD)=true:=e7 dR9 ps
theorem aR6 (x:Int×Int)(ps:List (Int×Int)):(ps.map pD).any (λz=>PyData.eqv z (pD x))=decide (x∈ps):=by
 induction ps with
 | nil=>rfl
 | cons y ps e=>
  rw[Ac7,List.any_cons,e,bZ6];by_cases h:y=x
  .subst h;simp
  .have:¬x=y:=λz=>h z.symm
   simp[h,this]
theorem dW1 (q:Int)(l:AD):(nI l).any (λz=>PyData.eqv z (.int q))=decide (q∈l.map λ(x:Nat)=>(x:Int)):=by
 unfold nI;induction l with
 | nil=>rfl
 | cons y l e=>
  rw[Ac7,List.any_cons,e,aX4];by_cases h:y=q
  .subst h;simp
  .have:¬q=y:=λz=>h z.symm
   simp[h,this]
theorem U7 (x:Int×Int):FitN 1 (pD x):=X0 _
theorem aR5 (ps:List (Int×Int)):Fit (.list (ps.map pD)):=(aC8 λd e=>by obtain⟨x,_,rfl⟩:=Aa8.mp e;exact U7 x).fit
def td (dr:AA)(p q:Int):Bool:=(decide (0<=p)&&decide (p<(dr.length:Int)))&&decide (q∈(TT.trn dr p.toNat).map λ(x:Nat)=>(x:Int))
def bO4 (ds:AG)(d:PyData):Prop:=∃(dr:AA) (p q:Int),ds=[tD dr,.int p,.int q]/\d=.bool (td dr p q)
def gp (ps:List (Int×Int))(k:Nat):Int×Int:=ps.getD k (0,0)
theorem bD2 (h:k<ps.length):ps[k]? = some (gp ps k):=by
 unfold gp;rw[Aa2 h,Ac0,Aa2 h];rfl
section
variable {P:Program}{w:World}{K:Frag}{mg:Str->Option Value}{base:Heap}{a:Ad}
theorem bP0 (T:Tx K mg a):J6 P w K mg base CX0 1 a.cQ3 a.cV3 ["drawing", "p", "q"] (spV K bO4):=by
 refine T.bO0.F.ok dF3 (S7 (by rintro ds d ⟨_,_,_,rfl,_⟩;rfl)) (λJ A Y s H vs Q E R h=>?_)
 obtain⟨ds,S,d,M,r,⟨c,p,q,rfl,rfl⟩,k⟩:=h;refine⟨_,(A9 (C0 (bY9 (cY3 dZ2 aU3 A8 (pv 1) (B4 (aK1 K) RR T.O4 Av (A0 (pv 0) A4))) (bZ0 (X7 (aJ2 K R) (pv 2) (B5 (ixK K) (pv 0) (pv 1)) rfl))))),G1 M r ?_ k⟩
 refine K0 ?_ rfl;have U:(c.map tN).length=c.length:=Aa3 _;have h:=cQ9 (m:=true) (ρ:=sl0 ["drawing", "p", "q"].length [tD c,.int p,.int q]) (dE8 (r:=rI0 λi j=>.bl (decide (i<=j))) (r':=rI0 λi j=>.bl (decide (i<j))) (g:=λi j=>decide (i<=j)) (g':=λi j=>decide (i<j)) (B0 (i:=0)) v1 (P4 (A3 v0 A7))) (λh=>by
  rw[U]at h;have X:=As _ _▸h;have h1:=Ap X.1;have D:=Ap X.2;have e:=bC8 (K:=K) (m:=false) (ρ:=sl0 ["drawing", "p", "q"].length [tD c,.int p,.int q]) v2 (D8 v0 v1 rfl (M6 p.toNat LL (by rw[Aa9,bL4 XX];rfl))) rfl (cG1 _) (by rw[aU0];exact(X0 _).fit)
  rw[dW1]at e;exact e)
 rw[U]at h;exact h
end
theorem cF4 {lo:Int}{n i:Nat}(h:(S6 lo n)[i]? = some d):d=.int (lo+(i:Int))/\i<n:=by
 have hi:=(Ab0.mp h).1
 have e:i<n:=by simpa[S6]using hi
 unfold S6 at h;rw[Aa9,List.getElem?_range e]at h;exact⟨(Ab4 h).symm,e⟩
def R4 (ts:AC):AC:=ts.mergeSort λa b => !HT.s9 b a
theorem C8 (ts:AC):(R4 ts).Perm ts:=List.mergeSort_perm _ _
theorem Q0 (ts:AC):(R4 ts).Pairwise J7:=by
 have:=List.pairwise_mergeSort (le:=λa b:AF => !HT.s9 b a) (λa b d h1 e=>by
  have:=aG1 a b d (by unfold J7;simpa using h1) (by unfold J7;simpa using e)
  unfold J7 at this;simp[this]) (λa b=>by
  rcases bG6 a b with h | h <;> unfold J7 at h <;> simp[h]) ts
 refine this.imp λh=>?_
 unfold J7;simpa using h
def toL (x:Int×Int):AF:=[x.1,x.2]
def ofL (l:AF):Int×Int:=(l.getD 0 0,l.getD 1 0)
def sp (ps:List (Int×Int)):List (Int×Int):=(R4 (ps.map toL)).map ofL
theorem j7 (ps:List (Int×Int)):(sp ps).Perm ps:=by
 have h:=(C8 (ps.map toL)).map ofL
 rw[Ae3]at h;have e:ps.map (ofL ∘ toL)=ps:=(Bj (λx _=>rfl)).trans (List.map_id _)
 rw[e]at h;exact h
theorem cO8 (ps:List (Int×Int)):(R4 (ps.map toL)).map tI=(sp ps).map pD:=by
 unfold sp;rw[Ae3];refine Bj λl e=>?_
 obtain⟨x,_,rfl⟩:=Aa8.mp ((C8 _).mem_iff.mp e);rfl
theorem m6 {K:Frag}(c:LV.A K false t ρ [.list (ps.map pD)])(j:ps.length<64) :
  EF K (tCB (λxs H Q=>∃(p:Addr) (ys:List V) (ts:AC),xs=[.ref p]/\SqL K H p ys/\TupsV K H ys ts/\ys.length<64 /\
   ∀a (q:AD),H a=none->q.Perm (List.range ys.length)->(q.map λi=>ts.getD i []).Pairwise J7->Q (.ref a) (upd H a (.lst (q.map λi=>ys.getD i .non)))) t) ρ ((sp ps).map pD):=by
 have e:ps.map pD=(ps.map toL).map tI:=by rw[Ae3];rfl
 rw[e]at c;rw[<- cO8];exact p7 c (λt s=>by obtain⟨x,_,rfl⟩:=Aa8.mp s;simp[toL]) (by rw[Aa3];exact j) (C8 _) (Q0 _)
def ga {α:Type}(g:Nat->List α)(n:Nat):List α:=((List.range n).map g).flatten
theorem P8 (g:Nat->List α)(n:Nat):ga g (n+1)=ga g n++g n:=by
 unfold ga;rw[Bq,Ad2,List.flatten_append];simp
theorem dW2 {g:Nat->List α}(e:∀i,(g i).length<=h i)(n:Nat):(ga g n).length<=((List.range n).map h).sum:=by
 induction n with
 | zero=>simp[ga]
 | succ n j=>rw[P8,Ab7,Bq,Ad2,List.sum_append];have:=e n;simp;lia
theorem bT3 {h:Nat->Nat}(hi:i<=n):((List.range i).map h).sum<=((List.range n).map h).sum:=by
 induction n with
 | zero=>simp[show i=0 by simp_all]
 | succ n j=>
  by_cases e:i=n+1
  .subst e;simp
  .have:=j LL
   rw[Bq,Ad2,List.sum_append];lia
theorem ga_mem {x:α}:x∈ga g n↔∃i,i<n/\x∈g i:=by
 unfold ga;rw[List.mem_flatten];constructor
 .rintro⟨l,hl,hx⟩;obtain⟨i,hi,rfl⟩:=Aa8.mp hl;exact⟨i,Ab5.mp hi,hx⟩
 .rintro⟨i,hi,hx⟩;exact⟨g i,Aa8.mpr ⟨i,Ab5.mpr hi,rfl⟩,hx⟩
def ga1 (tr:AA)(v:Nat):List (Int×Int):=(tr.getD v []).map λ(q:Nat)=>(3+(v:Int),(q:Int))
def gt1 (dr:AA)(p:Nat):List (Int×Int):=((TT.trn dr p).filter λq=>decide (p<q)&&decide (q>2)).map λ(q:Nat)=>((p:Int),(q:Int))
def arr (tr:AA):List (Int×Int):=ga (ga1 tr) tr.length
def bS5 (dr:AA):List (Int×Int):=ga (gt1 dr) dr.length
theorem Dw.tl (h:Dw m dr tr):tr.length=m:=by
 obtain⟨_,_,_,_,B⟩:=h;exact B.tl
theorem Dw.t3 (h:Dw m dr tr)(s:v<m):∃r,tr[v]? = some r/\r.length=3:=by
 obtain⟨_,F,G,f,B⟩:=h;obtain⟨u,j,e⟩:=B.N.surj (v+3) XX
 have c:3<=u:=by have:=B.N.lo SS j;lia
 have:=B.tr u c j
 rw[e]at this;exact⟨_,this,rfl⟩
theorem Dw.sum (h:Dw m dr tr):((List.range dr.length).map λp=>(TT.trn dr p).length).sum<=48:=by
 have e:=h.len
 have j:=h.m7
 obtain⟨_,F,G,f,B⟩:=h
 have:=B.good.sum
 rw[e];lia
theorem bS6 (h:Dw m dr tr)(hi:i<=dr.length):(ga (gt1 dr) i).length<=48:=
 Aq (dW2 (λp=>by unfold gt1;rw[Aa3];exact List.length_filter_le _ _) i) (Aq (bT3 hi) h.sum)
theorem bO5 (h:Dw m dr tr)(hi:i<=tr.length):(ga (ga1 tr) i).length<=3*i:=by
 induction i with
 | zero=>simp[ga]
 | succ i j=>
  rw[P8,Ab7]
  have:=j zq1
  have c:=h.tl
  obtain⟨r,h1,e⟩:=h.t3 (v:=i) LL
  have:(ga1 tr i).length=3:=by unfold ga1;rw[Aa3,Ac0,h1];exact e
  lia
end K37
namespace L2
open PySem PySem.Spec PyProof.Rows
abbrev KvR:List (AF×Addr×V)->List (AF×Addr×Value)->Prop:=Paired (λp q=>p.1=q.1/\p.2.1=q.2.1/\RelV p.2.2 q.2.2)
def atK (kv:List (AF×Addr×V))(k:AF):Option V:=(kv.find? λx=>decide (x.1=k)).map (·.2.2)
def bF3 (kv:List (AF×Addr×V))(k:AF)(b:Addr)(v:V):List (AF×Addr×V):=
 if(atK kv k).isSome then kv.map (λx=>if x.1=k then(x.1,x.2.1,v) else x) else kv++[(k,b,v)]
theorem bI1 (r:cN3 o u):o.isSome=u.isSome:=by
 cases o <;> cases u <;> first | rfl | exact r.elim
theorem KvR.at_ (r:KvR kv xs)(k:AF):cN3 (atK kv k) ((atKey xs k).map (·.2)):=by
 induction r with
 | nil=>exact True.intro
 | @cons p q ps qs h t ih=>
  by_cases e:p.1=k
  .have e':=h.1.symm.trans e
   simpa[atK,atKey,Bw,e,e',cN3]using h.2.2
  .have e':¬q.1=k:=λz=>e (h.1.trans z)
   simpa[atK,atKey,Bw,e,e',cN3]using ih
theorem KvR.repl (r:KvR kv xs)(k:AF)(j:RelV y u):KvR (kv.map λx=>if x.1=k then(x.1,x.2.1,y) else x) (xs.map (putAt k u)):=by
 induction r with
 | nil=>exact .nil
 | @cons p q ps qs h t ih=>
  rw[Ac7,Ac7];refine .cons ?_ ih;by_cases e:p.1=k
  .have e':=h.1.symm.trans e
   rw[Ac e,putAt,Ac e'];exact⟨h.1.trans rfl |>.trans (by simp[e']),h.2.1,j⟩
  .have e':=λz=>e (h.1.trans z)
   rw[Ab e,putAt,Ab e'];exact h
theorem KvR.snoc (r:KvR kv xs)(h:p.1=q.1/\p.2.1=q.2.1/\RelV p.2.2 q.2.2):KvR (kv++[p]) (xs++[q]):=by
 induction r with
 | nil=>exact .cons h .nil
 | cons a _ e=>exact .cons a e
theorem KvR.put (r:KvR kv xs)(k:AF)(b:Addr)(j:RelV y u):KvR (bF3 kv k b y) (storedH xs k b u):=by
 have e:=bI1 (KvR.at_ r k)
 rw[Option.isSome_map]at e;unfold bF3 storedH;rw[e];split
 .exact KvR.repl r k j
 .exact KvR.snoc r ⟨rfl,rfl,j⟩
theorem KvR.mem (r:KvR kv xs)(h:x∈xs):∃y∈kv,y.1=x.1/\y.2.1=x.2.1:=by
 induction r with
 | nil=>cases h
 | @cons p q ps qs a _ ih=>
  rcases Aa1.mp h with rfl | h
  .exact⟨p,SS,a.1,a.2.1⟩
  .obtain⟨y,j,e⟩:=ih h;exact⟨y,by simp[j],e⟩
theorem cS2 (kv:List (AF×Addr×V))(k:AF)(b:Addr)(v:V):(bF3 kv k b v).length<=kv.length+1:=by
 unfold bF3;split <;> simp
theorem bH1:∀{ks:AF} {us:AH},Vals (ks.map V.int) us->ItemsAre (intKind P w) ks us
 | [],_,r=>by cases r;exact .nil
 | k::ks,_,r=>by
  cases r with
  | cons h t=>
   obtain⟨t',rfl⟩:=h;exact .cons (by show Value.isInt k (Value.int k t')=true;simp[Value.isInt]) (bH1 t)
section
theorem aL9 (I:Inv X aA σ H s)(h:SqT X.K H b (ks.map V.int)):(tupleKind (intKind X.prog X.w)).is s.heap ks b:=by
 obtain⟨its,r,⟨o,h1,e,⟨n,j⟩,_⟩,_⟩:=I.tuple0 h;exact⟨o,its.toArray,n,h1,e,j,by simpa using bH1 r⟩
def bE8 (K:Frag)(H:Hp)(kv:List (AF×Addr×V)):Prop:=∀z∈kv,SqT K H z.2.1 (z.1.map V.int)
theorem bO1 (I:Inv X aA σ H s)(e:H a=some (dicO a kv))(D:bE8 X.K H kv):∃xs,KvR kv xs/\kv.length<=sizeLine/\(a==sysModules)=false/\s.heap.DictOfH (tupleKind (intKind X.prog X.w)) a xs:=by
 obtain⟨⟨xs,r,z,Q,o,Y,m,h1,U,J,M,R⟩,_⟩:=(show ObjOk X.prog X.w H s.heap a (dicO a kv) from I.hok a _ e)
 refine⟨xs,r,z,Q,o,Y,m,h1,U,J,M,λx F=>?_,R⟩
 obtain⟨y,B,j,c⟩:=KvR.mem r F
 have:=aL9 I (D y B)
 rw[j,c]at this;exact this
def dA2 (K:Frag)(neg:Bool):R2:=λx y H Q=>∃b a ks kv,x=.ref b/\SqT K H b (ks.map V.int)/\y=.ref a/\H a=some (dicO a kv)/\bE8 K H kv/\Q (.bl (xor neg (atK kv ks).isSome)) H
theorem aU5 (K:Frag)(R:Room k X.A)(h:X.K=K:=by rfl):OpR X (compareOp .NotIn) (dA2 K true):=by
 subst h;intro P s σ H x y v u Q I F B ⟨b,a,D,kv,c,U,m,Y,M,q⟩;subst c m;cases (show v=Value.ref b from F)
 cases (show u=Value.ref a from B)
 obtain⟨xs,r,z,J,j⟩:=bO1 I Y M;refine wpAny_notIn_heap (tupleKind_room_in1 (by have:=R.un;lia)) (aL9 I U) J j ?_
 have e:=bI1 (KvR.at_ r D)
 rw[Option.isSome_map]at e;rw[<- e];exact⟨.bl _,H,I.tok _,rfl,by simpa using q⟩
end
theorem aW1 (r:KvR kv xs)(z:kv.length<=sizeLine)(m:(a==sysModules)=false)(h1:h'.get? a=some o)(e:o.ExactDict)(j:o.data=.dict es ep)
  (c:es.toList=xs.map dEnt) (s:(xs.map (·.1)).Nodup):ObjOk P w H' h' a (dicO a kv):=
 ⟨⟨xs,r,z,m,o,es,ep,h1,e,j,c,s⟩,⟨o,h1⟩,λY X ⟨xs,r,z,m,o,es,ep,h1,e,j,c,s⟩ k=>⟨xs,r,z,m,o,es,ep,k _ h1,e,j,c,s⟩⟩
def cK3:TE:=λ_ H Q=>∀p,H p=none->Q (.ref p) (upd H p (dicO p []))
theorem _root_.L2.Inv.big' {σ:St}(I:Inv X aA σ H s):sysModules<s.heap.objs.size:=by
 have h:=(I.mod.glob.keeps I.bk).lt
 exact Nat.lt_trans DD h
theorem bJ8:PE X (.Dict [] [] pos) cK3:=⟨λe s σ H Q I h=>
 wpAny_Dict_empty ⟨.ref s.heap.objs.size,_,I.laid (λ_ _ q=>Aa6 _ q) (Aa7 _)
  (aW1 .nil (Br _) (beq_eq_false_iff_ne.mpr (Ne.symm (Ab9 I.big'))) (Ac3 _ rfl) ⟨rfl,rfl,rfl⟩ rfl rfl List.nodup_nil),rfl,h _ (I.hok.fresh (Aa7 _))⟩⟩
def cG5 (K:Frag)(td ty tv:TE):TS:=λD σ H=>tv σ H λv H1=>td σ H1 λx H2=>ty σ H2 λy H3=>∃a b ks kv,x=.ref a/\y=.ref b/\SqT K H3 b (ks.map V.int)/\H3 a=some (dicO a kv)/\bE8 K H3 kv/\kv.length<sizeLine/\D.nx σ (upd H3 a (dicO a (bF3 kv ks b v)))
theorem aR0 {pos pos':Pos}(K:Frag)(hr:Room k X.A)(ho:PE X o td)(hi:PE X i ty)(hv:PE X value tv)(hs:swapsWith value (some (.Subscript o i pos')) pos.line X.env=pure false:=by rfl)(h:X.K=K:=by rfl) :
  PS X (.Assign [.Subscript o i pos'] value pos) (cG5 K td ty tv):=by
 subst h;refine⟨?_⟩;intro m s σ H D I h;refine wpAny_Assign_Subscript (thn (hv m s σ H _ I h) λr s1 ⟨v,H1,B,rv,q1⟩=>thn (ho m s1 σ H1 _ B q1) λu s2 ⟨x,F,P,rx,q2⟩=>thn (hi m s2 σ F _ P q2) λiv s3 pz=>?_) hs
 obtain⟨y,H3,j,ry,a,b,Q,kv,ex,ey,U,M,hk,hl,q3⟩:=pz;subst ex ey;obtain rfl:u=Value.ref a:=rx;obtain rfl:iv=Value.ref b:=ry;obtain⟨xs,e,z,hd,dd⟩:=bO1 j M hk;have hz:xs.length<=sizeLine:=by rw[<- Paired.length e];exact z
 refine wpAny_setItem_heap (tupleKind_room_in1 (by have:=hr.un;lia)) (aL9 j U) dd λh' Y J=>⟨σ,_,?_,q3⟩
 obtain⟨q,es,ep,R,h2,h3,h4,_,h5⟩:=Y;have hp:=cS2 kv Q b v;exact j.write (by rw[M];exact True.intro) (.inl rfl) (λc q U z=>(J.2 c U).trans z) ⟨q,R⟩ (aW1 (KvR.put e Q b rv) bS3 hd R h2 h3 h4 h5)
end L2
namespace LV
open PySem L2
section
variable {K:Frag}{ρ:List Sl}{m:Bool}{ta tb tv:TE}{d:PyData}{ks:AF}{kvs:List (AF×PyData)}
def l9 (kvs:List (AF×PyData))(k:AF)(d:PyData):List (AF×PyData):=
 if kvs.any (λx=>decide (x.1=k)) then kvs.map (λx=>if x.1=k then(x.1,d) else x) else kvs++[(k,d)]
theorem aR7 {Z:Hp}:∀{kv:List (AF×Addr×V)} {kvs:List (AF×PyData)},kv.map (·.1)=kvs.map (·.1)->Reps K Z (kv.map λx=>V.ref x.2.1) (kvs.map λx=>PyData.tuple (x.1.map PyData.int))->bE8 K Z kv
 | [],_,_,_=>λz hz=>by cases hz
 | x::kv,[],e,_=>by simp at e
 | x::kv,y::kvs,e,r=>by
  simp  [Ac7,Bv]at e r
  cases r with
  | cons a b=>
   intro z hz;rcases Aa1.mp hz with rfl | hz
   .cases a with
    | tup s q=>rw[e.1,<- Reps.ints q];exact s
   .exact aR7 e.2 b z hz
theorem bH3 (h:bE8 K H kv)(s:Same H H'):bE8 K H' kv:=λz e=>F7 s (h z e)
theorem bM4:∀{kv:List (AF×Addr×V)} {kvs:List (AF×PyData)},kv.map (·.1)=kvs.map (·.1)->(atK kv ks).isSome=kvs.any λx=>decide (x.1=ks)
 | [],[],_=>rfl
 | [],_::_,e=>by simp at e
 | _::_,[],e=>by simp at e
 | x::kv,y::kvs,e=>by
  simp  [Ac7,Bv]at e
  have ih:=bM4 e.2
  unfold atK at ih ⊢;rw[Bw,List.any_cons,e.1];by_cases h:y.1=ks
  .simp[h]
  .simp[h];simpa using ih
theorem bB9:EFT K cK3 ρ (.dic []):=λS B σ H o I Q q p hp=>
 q (.ref p) [p] _ (D9 hp) (λb e=>by rw[Ad8.mp e];exact hp) SS (.dic C7 rfl .nil .nil)
theorem cH8 (c:E K false ta ρ (.tuple (ks.map PyData.int)))(h:ρ[i]? = some (.tr (.dic kvs))):E K m (tOp (dA2 K neg) ta (F6 i)) ρ (.bool (xor neg (kvs.any λx=>decide (x.1=ks)))):=E.bor (E.imm (m:=false) λS B σ H o I Q q=>c S B σ H o I _ λv H1 j Y=>by
 obtain⟨_,u,a,b⟩:=(I.grow j).tr i _ h;refine⟨u,a,?_⟩;generalize o i=L at b;cases b with
 | @dic p kv _ e k r2 r3=>
  cases Y with
  | @tup b xs _ s r=>
   rw[Reps.ints r]at s;refine⟨b,p,ks,kv,rfl,s,rfl,e,bH3 (aR7 k r2) O1,?_⟩;rw[bM4 k];exact q _ H1 j (.bl _))
theorem bI5 {Z:Hp}{v:V}(X:Rep K Z v d):∀{kv:List (AF×Addr×V)} {kvs:List (AF×PyData)},kv.map (·.1)=kvs.map (·.1)->Reps K Z (kv.map λx=>V.ref x.2.1) (kvs.map λx=>PyData.tuple (x.1.map PyData.int))->Reps K Z (kv.map (·.2.2)) (kvs.map (·.2)) ->
  (kv.map λx=>if x.1=ks then(x.1,x.2.1,v) else x).map (·.1)=(kvs.map λx=>if x.1=ks then(x.1,d) else x).map (·.1) /\
  Reps K Z ((kv.map λx=>if x.1=ks then(x.1,x.2.1,v) else x).map λx=>V.ref x.2.1) ((kvs.map λx=>if x.1=ks then(x.1,d) else x).map λx=>PyData.tuple (x.1.map PyData.int)) /\
  Reps K Z ((kv.map λx=>if x.1=ks then(x.1,x.2.1,v) else x).map (·.2.2)) ((kvs.map λx=>if x.1=ks then(x.1,d) else x).map (·.2))
 | [],[],_,_,_=>⟨rfl,.nil,.nil⟩
 | [],_::_,e,_,_=>by simp at e
 | _::_,[],e,_,_=>by simp at e
 | x::kv,y::kvs,e,r1,r2=>by
  simp  [Ac7,Bv]at e r1 r2
  cases r1 with
  | cons c J=>
   cases r2 with
   | cons U M=>
    obtain⟨h1,s,Y⟩:=bI5 X e.2 J M;simp only[Ac7];by_cases h:y.1=ks
    .have j:=e.1.trans h
     rw[Ac h,Ac j];exact⟨by rw[h1];simp[h,j],.cons c s,.cons X Y⟩
    .have j:=λz=>h (e.1.symm.trans z)
     rw[Ab h,Ab j];exact⟨by rw[h1,e.1],.cons c s,.cons U Y⟩
theorem cU8 (s:Rep K Z v d)(rb:Rep K Z (.ref b) (.tuple (ks.map PyData.int)))(e:kv.map (·.1)=kvs.map (·.1))(j:Reps K Z (kv.map λx=>V.ref x.2.1) (kvs.map λx=>PyData.tuple (x.1.map PyData.int)))(c:Reps K Z (kv.map (·.2.2)) (kvs.map (·.2))) :
  (bF3 kv ks b v).map (·.1)=(l9 kvs ks d).map (·.1)/\Reps K Z ((bF3 kv ks b v).map λx=>V.ref x.2.1) ((l9 kvs ks d).map λx=>PyData.tuple (x.1.map PyData.int))/\Reps K Z ((bF3 kv ks b v).map (·.2.2)) ((l9 kvs ks d).map (·.2)):=by
 unfold bF3 l9;rw[bM4 e];split
 .exact bI5 s e j c
 .simp  [Ad2,Ac7,Cw]
  exact⟨by rw[e],j.append (.cons rb .nil),c.append (.cons s .nil)⟩
theorem bC3 (hv:E K true tv ρ d)(hi:ρ[i]? = some (.tr (.dic kvs)))(hk:E K true tb ρ (.tuple (ks.map PyData.int)))(hl:kvs.length<sizeLine)(hn:R.nx (ρ.set i (.tr (.dic (l9 kvs ks d)))))(nb:O7 ρ=true:=by rfl) :
  W K (cG5 K (F6 i) tb tv) ρ R:=λS B D σ H o I s=>hv S B σ H o I _ λv H1 Q rv=>by
 obtain⟨X,u,a,b⟩:=(I.grow Q).tr i _ hi;refine⟨u,a,hk S B σ H1 o (I.grow Q) _ λy j s2 ry=>?_⟩
 have I2:=(I.grow Q).grow s2
 obtain⟨X,u2,a2,b2⟩:=I2.tr i _ hi;rw[a]at a2;cases a2;have Y:=(Ab0.mp hi).1;generalize ho:o i=L at b2;cases b2 with
 | @dic p kv _ e k r2 r3=>
  cases ry with
  | @tup q xs _ sq r=>
   have hq:=Reps.ints r
   have F:SqT K j q (ks.map V.int):=by rw[<- hq];exact F7 O1 sq
   have len:kv.length=kvs.length:=by have:=congrArg List.length k;simpa using this
   refine⟨p,q,ks,kv,rfl,rfl,F,e,bH3 (aR7 k r2) O1,XX,?_⟩
   have M:=rv.mono (aW6 s2)
   obtain⟨k',U,J⟩:=cU8 M (.tup (by rw[<- hq];exact sq) (V0 ks)) k r2 r3
   have oi:cL4 ρ o i p:=⟨_,hi,rfl,by rw[ho];simp⟩
   have os:E3 ρ o S p:=.inr ⟨i,_,hi,rfl,by rw[ho];simp⟩
   have g:Same (hid (E3 ρ o S) j) (hid (λb=>E3 ρ o S b\/b∈[p]) (upd j p (dicO p (bF3 kv ks q v)))):=λc y z=>by
    obtain⟨q1,q2⟩:=hid_some.mp z;refine hid_some.mpr ⟨λz=>q1 (z.elim id λz=>by rw[Ad8.mp z];exact os),?_⟩
    rw[C1 (λz=>q1 (by rw[z];exact os))];exact q2
   have P:=I2.put i Y (λb=>b=p) (λb z=>by rw[z];exact oi) (λb y q z=>by rw[C1 z];exact q) (λb z=>.inl (by rw[Ad8.mp z];exact oi))
    (.inr ⟨_,rfl,SS,.dic C7 k' (U.mono g) (J.mono g)⟩) (.inr (K6 nb))
   rw[bD6 a]at P;exact s.nx _ _ _ _ P hn
end
section
theorem dS9 (hi:ρ[i]? = some (.val (.int x)))(h:E K true t ρ (.int y))(X:R.nx (ρ.set i (.val (.int (x+y))))):W K (eC7 i t (ipI λi j=>i+j)) ρ R:=λS B D σ H o I s=>by
 obtain⟨v,c,Y⟩:=I.val i _ hi;cases Y;refine⟨_,c,h S B σ H o I _ λv e U r=>?_⟩
 cases r
 exact⟨_,_,rfl,rfl,s.nx _ _ e o ((I.grow U).set (m:=true) i (.int _)) X⟩
end
theorem cR1 (kvs:List (AF×PyData))(k j:AF)(d:PyData):(l9 kvs k d).any (λx=>decide (x.1=j))=(kvs.any (λx=>decide (x.1=j))||decide (k=j)):=by
 unfold l9;split
 .rename_i h;have e:(kvs.map λx=>if x.1=k then(x.1,d) else x).any (λx=>decide (x.1=j))=kvs.any (λx=>decide (x.1=j)):=by
   rw[List.any_map]
   congr 1
   funext x
   simp  [Function.comp]
   split <;> rfl
  rw[e];by_cases c:k=j
  .subst c;rw[h];rfl
  .simp[c]
 .simp
theorem bR7 (kvs:List (AF×PyData))(k:AF)(d:PyData):(l9 kvs k d).length<=kvs.length+1:=by
 unfold l9;split <;> simp
end LV
namespace TT
open Classical
def par (w:Nat->Bool):AD->Bool
 | []=>false
 | a::l=>xor (w a) (par w l)
theorem k9 (w:Nat->Bool):∀l m:AD,par w (l++m)=xor (par w l) (par w m)
 | [],m=>by simp[par]
 | a::l,m=>by simp[par,k9 w l m]
theorem i6:∀{l:AD},(∀a∈l,w a=false)->par w l=false
 | [],_=>rfl
 | a::l,h=>by simp[par,h a SS,i6 (l:=l) λb hb=>h b (by simp[hb])]
theorem j5 (w u:Nat->Bool):∀l:AD,par (λa=>xor (w a) (u a)) l=xor (par w l) (par u l)
 | []=>rfl
 | a::l=>by
  simp  [par,j5 w u l]
  cases w a <;> cases u a <;> cases par w l <;> cases par u l <;> rfl
theorem aH1:∀{l:AD},(∀a∈l,w a=u a)->par w l=par u l
 | [],_=>rfl
 | a::l,h=>by simp[par,h a SS,aH1 (l:=l) λb hb=>h b (by simp[hb])]
theorem aF6 {w:Nat->Bool}{s:Nat}:∀{l:AD},l.Nodup->s∈l->(∀a∈l,a≠s->w a=false)->par w l=w s
 | [],_,h,_=>by cases h
 | a::l,nd,h,hz=>by
  rw[Aa5]at nd;by_cases e:a=s
  .subst e
   simp[par,i6 λb j=>hz b (by simp[j]) λe=>nd.1 (e▸j)]
  .have c:s∈l:=by rcases Aa1.mp h with h | h;exact absurd h.symm e;exact h
   simp[par,hz a SS e,aF6 nd.2 c λb j=>hz b (by simp[j])]
theorem bM5 (c:s≠t)(m:l.Nodup)(X:s∈l)(U:t∈l)(J:∀a∈l,a≠s->a≠t->w a=false):par w l=xor (w s) (w t):=by
 have e:par w l=par (λa=>xor (if a=s then w s else false) (if a=t then w t else false)) l:=aH1 λa Y=>by
  by_cases h1:a=s
  .subst h1;simp[c]
  .by_cases j:a=t
   .subst j;simp[h1]
   .simp[h1,j,J a Y h1 j]
 rw[e,j5,aF6 m X λa _ h=>by simp[h],aF6 m U λa _ h=>by simp[h]]
 simp
theorem lin_iff:∀{l:AD} {a b:Nat},lin l a b↔∃p s,l=p++a::b::s
 | [],a,b=>by simp[lin]
 | [c],a,b=>by
  simp only[lin,false_iff];rintro⟨p,s,e⟩
  have:=congrArg List.length e
  simp at this
  lia
 | c::d::l,a,b=>by
  rw[C5,lin_iff];constructor
  .rintro (⟨rfl,rfl⟩ | ⟨p,s,e⟩)
   .exact⟨[],l,rfl⟩
   .exact⟨c::p,s,by rw[e];rfl⟩
  .rintro⟨p,s,e⟩;cases p with
   | nil=>simp at e;exact .inl ⟨e.1.symm,e.2.1.symm⟩
   | cons c' p=>simp at e;exact .inr ⟨p,s,e.2⟩
theorem adj_iff:adj l a b↔(∃p s,l=p++a::b::s)\/∃p,l=p++[a]/\l.head? = some b:=by
 unfold adj;rw[lin_iff];cases l with
 | nil=>simp
 | cons c l=>
  simp only[List.take_succ_cons,List.take_zero,List.head?_cons,Option.some.injEq];constructor
  .rintro⟨p,s,e⟩;rcases Ac5 s with j | ⟨m,d,j⟩
   .subst j;have e':(c::l)++[c]=(p++[a])++[b]:=by rw[e];simp
    have:=List.append_inj' e' rfl
    exact .inr ⟨p,this.1,by simpa using this.2⟩
   .subst j;have e':(c::l)++[c]=(p++a::b::m)++[d]:=by rw[e];simp
    exact .inl ⟨p,m,(List.append_inj' e' rfl).1⟩
  .rintro (⟨p,s,e⟩ | ⟨p,e,rfl⟩)
   .exact⟨p,s++[c],by rw[e];simp⟩
   .exact⟨p,[],by rw[e];simp⟩
theorem F1 {u:Nat}(j:l.Nodup)(e:l=p++u::s):l.idxOf u=p.length:=by
 have hp:=λc=>by rw[e]at j;exact(Aa4.mp j).2.2 u c u SS rfl
 rw[e,List.idxOf_append,Ab hp];simp
theorem pot (Y:l.Nodup)(h:par w l=false):∃G:Nat->Bool,∀a b,adj l a b->xor (G a) (G b)=w b:=by
 refine⟨λu=>par w (l.take (l.idxOf u+1)),λa b j=>?_⟩
 have at_:∀(p s:AD) (u:Nat),l=p++u::s->l.take (l.idxOf u+1)=p++[u]:=λp s u e=>by
  rw[F1 Y e,e,show p++u::s=(p++[u])++s by simp]
  exact List.take_left' SS
 rcases adj_iff.mp j with⟨p,s,e⟩ | ⟨p,e,m⟩
 .dsimp only
  rw[at_ p (b::s) a e,at_ (p++[a]) s b (by rw[e];simp),k9,k9,k9]
  simp only[par];cases par w p <;> cases w a <;> cases w b <;> rfl
 .dsimp only
  rw[at_ p [] a e];cases l with
  | nil=>simp at m
  | cons c r=>
   simp at m;subst m
   rw[<- e,h,at_ [] r c rfl]
   simp[par]
structure Cyc (r:Nat->AD)(z:Nat->Nat->Bool):Prop where
 sym:∀p q,z p q=z q p
 sup:∀p q,z p q=true->q∈r p
 ev:∀p,par (z p) (r p)=false
def H1 (r:Nat->AD):Prop:=∀z,Cyc r z->∃f:Nat->Nat->Bool,(∀q a b,adj (r q) a b->f q a=f a b)/\∀p s q,adj (r p) s q->xor (f p s) (f p q)=z p q
theorem aG8 (j:l.Nodup)(U:3<=l.length)(h1:adj l a b)(D:adj l b a):False:=by
 have R:a≠b:=λe=>by
  subst e;rcases adj_iff.mp h1 with⟨p,s,e⟩ | ⟨p,e,X⟩
  .rw[e]at j
   have:=(Aa4.mp j).2.1
   simp at this
  .cases p with
   | nil=>rw[e]at U;simp at U
   | cons c p=>rw[e]at X j;simp at X;subst X;simp at j
 rcases adj_iff.mp h1 with⟨p,s,e⟩ | ⟨p,e,X⟩
 .rcases adj_iff.mp D with⟨J,Q,e'⟩ | ⟨J,e',Y⟩
  .have B:=F1 j e
   have P:=F1 j e'
   have i3:=F1 (p:=p++[a]) (u:=b) (s:=s) j (by rw[e];simp)
   have F:=F1 (p:=J++[b]) (u:=a) (s:=Q) j (by rw[e'];simp)
   simp at i3 F
   lia
  .
   cases p with
   | cons c p=>rw[e]at Y j;simp at Y;subst Y;simp at j
   | nil=>
    cases s with
    | nil=>rw[e]at U;simp at U
    | cons d s=>
     rw[e]at e' j;rcases Ac5 (d::s) with h | ⟨m,g,h⟩
     .cases h
     .rw[h]at e' j;have M:([]++a::b::m.concat g)=(a::b::m)++[g]:=by simp
      rw[M]at e' j
      have:=(List.append_inj' e' rfl).2
      simp at this
      subst this;simp at j
 .rcases adj_iff.mp D with⟨J,Q,e'⟩ | ⟨J,e',Y⟩
  .cases J with
   | cons c J=>rw[e']at X j;simp at X;subst X;simp at j
   | nil=>
    cases Q with
    | nil=>rw[e']at U;simp at U
    | cons d s=>
     rw[e']at e j;rcases Ac5 (d::s) with h | ⟨m,g,h⟩
     .cases h
     .rw[h]at e j;have M:([]++b::a::m.concat g)=(b::a::m)++[g]:=by simp
      rw[M]at e j
      have:=(List.append_inj' e rfl).2
      simp at this
      subst this;simp at j
  .have:=List.append_inj' (e.symm.trans e') rfl
   exact R (by simpa using this.2)
theorem cP6 {g:Nat->Bool}:∀(a:Nat) (l:AD),(∀s q,lin (a::l) s q->g s=g q)->∀c∈l,g c=g a
 | a,[],_,c,hc=>by cases hc
 | a,b::l,h,c,hc=>by
  have e:=h a b (by exact .inl ⟨rfl,rfl⟩)
  rcases Aa1.mp hc with rfl | hc
  .exact e.symm
  .rw[e];exact cP6 b l (λs q j=>h s q (by exact .inr j)) c hc
theorem cZ3:H1 S.first.row:=by
 intro z Z;have j:S.first.row 0=[1,2]:=rfl;have c:S.first.row 1=[2,0]:=rfl;have X:S.first.row 2=[0,1]:=rfl;have rh:∀q,3<=q->S.first.row q=[]:=λq e=>bD8 e
 have m:=Z.ev 0
 have Y:=Z.ev 1
 have U:=Z.ev 2
 rw[j]at m;rw[c]at Y;simp  [par,Bool.xor_false]at m Y U;have J:=Z.sym 0 1;have M:=Z.sym 0 2;have R:=Z.sym 1 2;refine⟨λp q=>if(p=0/\q=1)\/(p=1/\q=2)\/(p=2/\q=0) then z 0 1 else false,λq a b h=>?_,λp s q h=>?_⟩
 .have e:q<3:=by
   by_cases e:q<3
   .exact e
   .rw[rh q YY]at h;exact absurd (B2 h).1 SS
  rcases (show q=0\/q=1\/q=2 by lia) with rfl | rfl | rfl
  .rw[j]at h;simp[adj,lin]at h;rcases h with⟨rfl,rfl⟩ | ⟨rfl,rfl⟩ <;> simp
  .rw[c]at h;simp[adj,lin]at h;rcases h with⟨rfl,rfl⟩ | ⟨rfl,rfl⟩ <;> simp
  .rw[X]at h;simp[adj,lin]at h;rcases h with⟨rfl,rfl⟩ | ⟨rfl,rfl⟩ <;> simp
 .have e:p<3:=by
   by_cases e:p<3
   .exact e
   .rw[rh p YY]at h;exact absurd (B2 h).1 SS
  rcases (show p=0\/p=1\/p=2 by lia) with rfl | rfl | rfl
  .rw[j]at h;simp[adj,lin]at h;rcases h with⟨rfl,rfl⟩ | ⟨rfl,rfl⟩ <;> simp <;> grind
  .rw[c]at h;simp[adj,lin]at h;rcases h with⟨rfl,rfl⟩ | ⟨rfl,rfl⟩ <;> simp <;> grind
  .rw[X]at h;simp[adj,lin]at h;rcases h with⟨rfl,rfl⟩ | ⟨rfl,rfl⟩ <;> simp <;> grind
theorem bx1:∀A X V Y B:Bool,xor A (xor X (xor V (xor Y B)))=false->xor A (xor X (xor false (xor Y B)))=V:=by decide
theorem bx2:∀A X V Y B:Bool,xor A (xor X (xor V (xor Y B)))=false->xor A (xor X (xor Y B))=V:=by decide
theorem bx3:∀A T V B:Bool,xor A (xor T (xor V B))=false->xor A (xor T B)=V:=by decide
theorem bx4:∀A Z V B:Bool,xor A (xor Z (xor V B))=false->xor A (xor Z (xor false B))=V:=by decide
section
theorem Edit.sym' (E:Edit row row' v x y L C R)(h:q∈row' p):p∈row' q:=by
 obtain⟨b,e⟩:=o9 h;exact(B2 (E.tri' _ _ _ e)).2
theorem Edit.mem_old (E:Edit row row' v x y L C R)(hp:p≠v)(X:q≠v)(h:q∈row' p):q∈row p:=by
 by_cases c:p=2
 .subst c;rw[E.new2]at h;rw[E.two];grind
 by_cases m:p=x
 .subst m;obtain⟨u,z,w,e,j⟩:=E.rx;grind
 by_cases Y:p=y
 .subst Y;obtain⟨u,w,e,j⟩:=E.ry;grind
 by_cases s:p∈C
 .obtain⟨u,z,w,e,j⟩:=E.rc p s;grind
 .rw[E.rest p c hp m Y s]at h;exact h
theorem Edit.par_old (E:Edit row row' v x y L C R)(Z:Cyc row' w)(hp:p≠v):par (w p) (row p)=w p v:=by
 obtain⟨⟨f1,f2,f3,F,B⟩,M,nd2⟩:=E.facts;have ev:=Z.ev p;have no:∀q,q∉row' p->w p q=false:=λq Q=>by
  cases h:w p q with
  | false=>rfl
  | true=>exact absurd (Z.sup p q h) Q
 have nd':=E.nd' p
 by_cases Y:p=2
 .subst Y;rw[E.new2]at ev;rw[E.two];have j:=i6 λc j=>no c (by
   rw[E.new2]
   have:=M c j
   grind)
  simp only[k9,par,j]at ev ⊢;exact bx1 _ _ _ _ _ ev
 by_cases X:p=x
 .subst X;obtain⟨u,z,J,s,m⟩:=E.rx;rw[m]at ev;rw[s];simp only[k9,par]at ev ⊢;exact bx2 _ _ _ _ _ ev
 by_cases U:p=y
 .subst U;obtain⟨u,J,s,m⟩:=E.ry;rw[m]at ev;rw[s];simp only[k9,par]at ev ⊢;exact bx3 _ _ _ _ ev
 by_cases j:p∈C
 .obtain⟨u,z,J,s,m⟩:=E.rc p j;have D:=no 2 (by
   have:=E.nd p
   have v2:=E.v2
   grind)
  rw[m]at ev;rw[s];simp only[k9,par,D]at ev ⊢;exact bx4 _ _ _ _ ev
 .have e:=E.rest p Y hp X U j
  rw[e]at ev;rw[ev,no v (by rw[e];exact E.fresh p)]
theorem dI1 (E:Edit row row' v x y L C R)(h:H1 row):H1 row':=by
 intro z' Z;obtain⟨⟨f1,f2,f3,f4,f5⟩,fC,nd2⟩:=E.facts;have v2:=E.v2;have D:=E.nd' v;have hD3:3<=(row' v).length:=by rw[E.newv];simp
 obtain⟨G,hG⟩:=pot D (Z.ev v);have nv:∀{q},q∈row' v->q≠v:=λ{q} U e=>E.self' v (e▸U)
 have m:∀{a b},adj (row' v) a b->a∈row' b/\b∈row' a/\a≠v/\b≠v:=λ{a b} X=>by
  have M:=E.tri' _ _ _ X
  have t2:=E.tri' _ _ _ M
  exact⟨(B2 t2).2,(B2 M).1,nv (B2 X).1,nv (B2 X).2⟩
 let Y:=λp q=>if adj (row' v) p q then G p else if adj (row' v) q p then G q else false
 have lksym:∀p q,Y p q=Y q p:=λp q=>by
  simp only[Y];by_cases h1:adj (row' v) p q <;> by_cases Q:adj (row' v) q p
  .exact(aG8 D hD3 h1 Q).elim
  .simp[h1,Q]
  .simp[h1,Q]
  .simp[h1,Q]
 let z:=λp q=>if p=v\/q=v then false else xor (z' p q) (Y p q)
 have zz:∀p q,p≠v->q≠v->z p q=xor (z' p q) (Y p q):=λp q h1 Q=>by simp[z,h1,Q]
 have Z0:Cyc row z:=by
  refine⟨λp q=>?_,λp q P=>?_,λp=>?_⟩
  .simp only[z];rw[Z.sym p q,lksym p q];by_cases h1:p=v <;> by_cases Q:q=v <;> simp[h1,Q]
  .by_cases h1:p=v\/q=v
   .simp only[z]at P;rw[Ac h1]at P;cases P
   .have h1':p≠v/\q≠v:=by simpa using h1
    rw[zz p q h1'.1 h1'.2]at P;refine E.mem_old h1'.1 h1'.2 ?_;cases hz':z' p q with
    | true=>exact Z.sup p q hz'
    | false=>
     rw[hz']at P;by_cases a1:adj (row' v) p q
     .exact(m a1).2.1
     .by_cases a2:adj (row' v) q p
      .exact(m a2).1
      .simp[Y,a1,a2]at P
  .by_cases hp:p=v
   .subst hp;rw[E.oldv];rfl
   .have B:=aH1 λq U=>zz p q hp λe=>E.fresh p (e▸U)
    rw[B,j5,E.par_old Z hp];by_cases hm:p∈row' v
    .obtain⟨s,J⟩:=o9 hm;obtain⟨t,ht⟩:=aO7 hm;have hst:s≠t:=λe=>aG8 D hD3 J (e▸ht)
     have e2:=bM5 (w:=Y p) hst (E.nd p) (E.mem_old hp (m J).2.2.2 (m J).2.1) (E.mem_old hp (m ht).2.2.1 (m ht).1) (λq _ h1 Q=>by
      simp only[Y];rw[Ab λj=>h1 (Q7 D j J),Ab λj=>Q (e8 D j ht)])
     have l1:Y p s=G p:=by simp[Y,J]
     have l2:Y p t=G t:=by
      simp only[Y];rw[Ab λj=>hst (Q7 D J j),Ac ht]
     rw[e2,l1,l2,Z.sym p v,<- hG t p ht];cases G t <;> cases G p <;> rfl
    .rw[i6 λq _=>by simp only[Y];rw[Ab λj=>hm (B2 j).1,Ab λj=>hm (B2 j).2]]
     cases P:z' p v with
     | false=>rfl
     | true=>exact absurd (E.sym' (Z.sup p v P)) hm
 obtain⟨f,fr,fb⟩:=h z Z0;have fb':∀p q,q∈row p->xor (f p q) (f q p)=z p q:=λp q U=>by
  obtain⟨s,J⟩:=aO7 U
  have:=fb p s q J
  have M:=E.tri _ _ _ J
  rw[<- this,fr _ _ _ J,fr _ _ _ M];cases f q p <;> cases f p q <;> rfl
 have lkC:∀c∈C,Y 2 c=false:=λc hc=>by
  have fc:=fC c hc
  have aD:∀a b,adj (row' v) a b↔EE x y C a b\/(a=y/\b=2)\/(a=2/\b=x):=λa b=>by
   rw[E.newv];unfold adj EE
   have:x::(C++[y,2])++List.take 1 (x::(C++[y,2]))=(x::C)++y::[2,x]:=by simp
   rw[this,B9];simp only[C5,aG5,or_false]
   simp
  simp only[Y];have m1:¬adj (row' v) 2 c:=λj=>by
   rcases (aD _ _).mp j with h | h | h
   .have:=aC1 h;grind
   .exact absurd h.1.symm f3
   .exact fc.1 h.2
  have m2:¬adj (row' v) c 2:=λj=>by
   rcases (aD _ _).mp j with h | h | h
   .have:=aC1 h;grind
   .exact fc.2.1 h.1
   .exact fc.2.2.1 h.1
  rw[Ab m1,Ab m2]
 have k2:=cP6 (g:=f 2) x C λs q J=>by
  have U:=N8 J
  have he:EE x y C s q:=by
   unfold EE
   have:x::(C++[y])=(x::C)++[y]:=rfl
   rw[lin_iff]at J ⊢;obtain⟨p,w,e⟩:=J;exact⟨p,w++[y],by rw[this,e];simp⟩
  have:=fb 2 s q (y7 E he)
  have fc:=fC q U
  have z2:z 2 q=false:=by
   rw[zz 2 q (Ne.symm v2) fc.2.2.2,lkC q U];cases P:z' 2 q with
   | false=>rfl
   | true=>
    have:=Z.sup 2 q P
    rw[E.new2]at this;grind
  rw[z2]at this;cases h1:f 2 s <;> cases Q:f 2 q <;> simp[h1,Q]at this ⊢
 generalize hκ:f 2 x=κ at k2;have aD:∀a b,adj (row' v) a b↔EE x y C a b\/(a=y/\b=2)\/(a=2/\b=x):=λa b=>by
  rw[E.newv];unfold adj EE
  have:x::(C++[y,2])++List.take 1 (x::(C++[y,2]))=(x::C)++y::[2,x]:=by simp
  rw[this,B9];simp only[C5,aG5,or_false]
  simp
 have fk:∀a b,adj (row' v) a b->f a b=κ:=λa b j=>by
  have ee:∀{a b},EE x y C a b->f 2 a=κ:=λ{a b} he=>by
   rcases (aC1 he).1 with rfl | hc
   .exact hκ
   .exact k2 a hc
  rcases (aD a b).mp j with he | ⟨rfl,rfl⟩ | ⟨rfl,rfl⟩
  .rw[<- fr 2 a b (y7 E he)];exact ee he
  .
   obtain⟨t,ht⟩:∃t,EE x a C t a:=by
    rcases Ac5 (x::C) with h | ⟨p,t,h⟩
    .cases h
    .refine⟨t,lin_iff.mpr ⟨p,[],?_⟩⟩
     have:x::(C++[a])=(x::C)++[a]:=rfl
     rw[this,h];simp
   have h1:=y7 E ht
   have M:=E.tri _ _ _ h1
   rw[<- fr _ _ _ M,<- fr _ _ _ h1];exact ee ht
  .exact hκ
 refine⟨λp q=>if p=v then xor κ (G q) else if q=v then xor κ (xor (G p) (z' v p)) else if adj (row' v) p q then xor κ (G p) else f p q,λq a b X=>?_,λp s q F=>?_⟩
 .have M:=E.tri' _ _ _ X
  have t2:=E.tri' _ _ _ M
  have gp:∀{a b},adj (row' v) a b->xor (G b) (z' v b)=G a:=λ{a b} h=>by rw[<- hG a b h];cases G a <;> cases G b <;> rfl
  dsimp only
  by_cases U:q=v
  .subst U;have i:=m X;rw[Ac rfl,Ab i.2.2.1,Ab i.2.2.2,Ac X]
  by_cases j:a=v
  .subst j;have i:=m M;rw[Ab U,Ac rfl,Ac rfl,gp M]
  by_cases hb:b=v
  .subst hb;rw[Ab U,Ab j,Ac t2,Ab j,Ac rfl,gp t2]
  .have n1:=λh=>hb (Q7 (E.nd' q) X (E.tri' _ _ _ h))
   have n2:=λh=>U (Q7 (E.nd' a) M (E.tri' _ _ _ h))
   rw[Ab U,Ab j,Ab n1,Ab j,Ab hb,Ab n2];rcases (cA7 E q a b).mp X with⟨h1,_⟩ | h1
   .exact fr _ _ _ h1
   .unfold W' at h1;grind
 .have M:=E.tri' _ _ _ F
  have t2:=E.tri' _ _ _ M
  dsimp only
  by_cases hp:p=v
  .subst hp;rw[Ac rfl,Ac rfl,<- hG s q F];cases κ <;> cases G s <;> cases G q <;> rfl
  by_cases J:s=v
  .subst J;have i:=m M;have n1:=λh=>aG8 D hD3 M h
   rw[Ab hp,Ac rfl,Ab hp,Ab i.2.2.1,Ab n1];have B:=fb' p q (E.mem_old hp i.2.2.1 i.1);rw[fk q p M,zz p q hp i.2.2.1]at B;have l1:Y p q=G q:=by simp only[Y];rw[Ab n1,Ac M]
   rw[l1]at B;have e2:=hG q p M;rw[<- e2];cases h1:f p q <;> cases Q:z' p q <;> cases h3:G q <;> cases h4:G p <;> cases h5:κ <;> simp[h1,Q,h3,h5]at B ⊢
  by_cases U:q=v
  .subst U;have i:=m t2;rw[Ab hp,Ab J,Ac t2,Ab hp,Ac rfl,Z.sym p q];cases κ <;> cases G p <;> cases z' q p <;> rfl
  .have n1:=λh=>U (Q7 (E.nd' p) F (E.tri' _ _ _ h))
   have n2:=λh=>J (e8 (E.nd' p) F (E.tri' _ _ _ (E.tri' _ _ _ h)))
   have o:adj (row p) s q:=by
    rcases (cA7 E p s q).mp F with⟨h1,_⟩ | h1
    .exact h1
    .unfold W' at h1;grind
   have B:=fb p s q o
   rw[zz p q hp U]at B;rw[Ab hp,Ab J,Ab n1,Ab hp,Ab U];by_cases n3:adj (row' v) p q
   .have l1:Y p q=G p:=by simp only[Y];rw[Ac n3]
    rw[Ac n3];rw[l1,fk p q n3]at B;cases h1:f p s <;> cases Q:z' p q <;> cases h3:G p <;> cases h5:κ <;> simp[h1,Q,h3,h5]at B ⊢
   .have l1:Y p q=false:=by simp only[Y];rw[Ab n3,Ab n2]
    rw[Ab n3,B,l1];simp
end
theorem cP5 (R:Rws F G m):∀i,i<=m->H1 (gst F G i).row
 | 0,_=>cZ3
 | i+1,hi=>by
  have I:=P7 R i zq1
  have f1:=R.f1 i AO
  have f2:=R.f2 i AO
  have c:=R.g1 i AO
  have s:=R.g2 i AO
  have h1:=I.p
  have Y:=I.h
  obtain⟨x,U,y,X,e,j,E,_⟩:=bL1 I.inv (a:=F i-pv F i) (b:=G i-pv G i) LL LL
  exact dI1 E (cP5 R i zq1)
theorem cF1 (w:Nat->Bool)(f:Nat->Nat):∀l:AD,par w (l.map f)=par (λa=>w (f a)) l
 | []=>rfl
 | a::l=>by simp[par,cF1 w f l]
theorem bT7 (h:l.Perm m):par w l=par w m:=by
 induction h with
 | nil=>rfl
 | cons a _ j=>simp[par,j]
 | swap a b l=>simp  [par];cases w a <;> cases w b <;> cases par w l <;> rfl
 | trans _ _ h1 e=>exact h1.trans e
theorem H1.named (G:Good n r)(F:Nm n f)(h:∀v,v<n->r' (f v)=W2 ((r v).map f))(hh:∀q,n<=q->r' q=[])(H:H1 r):H1 r':=by
 intro z' Z;have G':=G.named F h hh;have gi:∀q,∃v,q<n->v<n/\f v=q:=λq=>by
  by_cases m:q<n
  .obtain⟨v,h1,U⟩:=F.surj q m;exact⟨v,λ_=>⟨h1,U⟩⟩
  .exact⟨0,λz=>absurd z m⟩
 let g:=λq=>Classical.choose (gi q)
 have hg:=λq m=>Classical.choose_spec (gi q) m
 have R:∀v,v<n->g (f v)=v:=λv Y=>F.inj _ _ (hg _ (F.lt v Y)).1 Y (hg _ (F.lt v Y)).2
 have Q:∀v,v<n->∀x,x∈r' (f v)↔∃a,a∈r v/\x=f a:=λv Y x=>by
  rw[h v Y,begun_mem,Aa8];exact⟨λ⟨a,h1,U⟩=>⟨a,h1,U.symm⟩,λ⟨a,h1,U⟩=>⟨a,h1,U.symm⟩⟩
 have X:∀v,v<n->∀x y,adj (r' (f v)) x y↔∃a b,x=f a/\y=f b/\adj (r v) a b:=λv Y x y=>by rw[h v Y,bJ2,cE1]
 have Z0:Cyc r λp q=>if p<n/\q<n then z' (f p) (f q) else false:=by
  refine⟨λp q=>?_,λp q B=>?_,λp=>?_⟩
  .by_cases h1:p<n <;> by_cases U:q<n <;> simp[h1,U,Z.sym (f p) (f q)]
  .by_cases h1:p<n/\q<n
   .rw[Ac h1]at B;obtain⟨a,ha,e⟩:=(Q p h1.1 _).mp (Z.sup _ _ B);rw[F.inj q a h1.2 (G.lt p a ha) e];exact ha
   .rw[Ab h1]at B;cases B
  .by_cases hp:p<n
   .have ev:=Z.ev (f p)
    rw[h p hp,bT7 (u6 _),cF1]at ev;rw[<- ev];exact aH1 λq m=>by simp[hp,G.lt p q m]
   .rw[G.hi p YY];rfl
 obtain⟨f0,fr,fb⟩:=H _ Z0;refine⟨λp q=>f0 (g p) (g q),λq a b J=>?_,λp s q M=>?_⟩
 .have m:q<n:=by
   by_cases m:q<n
   .exact m
   .rw[hh q YY]at J;exact absurd (B2 J).1 SS
  obtain⟨v,Y,rfl⟩:=F.surj q m;obtain⟨c,d,rfl,rfl,j⟩:=(X v Y a b).mp J;have P:=G.lt v c (B2 j).1;have D:=G.lt v d (B2 j).2;dsimp only;rw[R v Y,R c P,R d D];exact fr _ _ _ j
 .have m:p<n:=by
   by_cases m:p<n
   .exact m
   .rw[hh p YY]at M;exact absurd (B2 M).1 SS
  obtain⟨v,Y,rfl⟩:=F.surj p m;obtain⟨c,d,rfl,rfl,j⟩:=(X v Y s q).mp M;have P:=G.lt v c (B2 j).1;have D:=G.lt v d (B2 j).2;dsimp only;rw[R v Y,R c P,R d D,fb _ _ _ j]
  simp[Y,D]
theorem Bt.h1 (B:Bt F G m f d t):H1 (trn d):=by
 refine H1.named (bX1 B.R) B.N (λv j=>?_) (λq e=>?_) (cP5 B.R m (Aa7 _))
 .unfold trn;rw[B.dr v j];rfl
 .unfold trn;rw[Ad6 (by rw[B.dl];exact e)];rfl
structure Tk (r:Nat->AD)(n:Nat)(rim:AD)(R:Nat->Prop):Prop where
 nd:rim.Nodup
 ends:∃mid,rim=0::(mid++[1])
 out:∀p∈rim,¬R p
 lt:∀p∈rim,p<n
 at_:3<=rim.length->∀a p b,adj rim a p->adj rim p b->∃I O u w,r p=u++w/\w++u=a::(I++b::O)/\(∀q∈I,¬R q)/\(∀q∈O,R q)/\O≠[]
 inn:∀p,p<n->¬R p->p∉rim->∀q∈r p,¬R q
 con:∀u,R u->∃z:Nat->Nat->Bool,(∀p q,z p q=z q p)/\(∀p q,z p q=true->q∈r p/\R p/\R q)/\∀p,par (z p) (r p)=xor (decide (p=u)) (decide (p=2))
def ed (X Y:Nat)(p q:Nat):Bool:=(decide (p=X)&&decide (q=Y))||(decide (p=Y)&&decide (q=X))
theorem bM6 (X Y p q:Nat):ed X Y p q=ed X Y q p:=by
 unfold ed;by_cases h1:p=X <;> by_cases e:q=Y <;> by_cases j:p=Y <;> by_cases c:q=X <;> simp[h1,e,j,c] <;> grind
theorem cE0 (h:ed X Y p q=true):(p=X/\q=Y)\/(p=Y/\q=X):=by
 unfold ed at h;simpa using h
theorem bP4 (G:Good n r)(h:Y∈r X)(p:Nat):par (ed X Y p) (r p)=xor (decide (p=X)) (decide (p=Y)):=by
 have j:X≠Y:=λe=>G.self X (by rw[<- e]at h;exact h)
 by_cases h1:p=X
 .subst h1;rw[aF6 (G.nd p) h λa _ s=>by unfold ed;simp[j,s]]
  unfold ed;simp[j]
 .by_cases c:p=Y
  .subst c;rw[aF6 (G.nd p) (G.sym h) λa _ s=>by unfold ed;simp[h1,s]]
   unfold ed;simp[h1]
  .rw[i6 λa _=>by unfold ed;simp[h1,c]]
   simp[h1,c]
theorem bW1 {P:Nat->Prop}:(∃k,P k)->∃k,P k/\∀j,j<k->¬P j:=by
 intro ⟨k,c⟩;induction k using Nat.strongRecOn with
 | _ k s=>
  by_cases h:∃j,j<k/\P j
  .obtain⟨j,e,hp⟩:=h;exact s j e hp
  .exact⟨k,c,λj e hp=>h ⟨j,e,hp⟩⟩
theorem seg {f w:Nat->Bool}:∀(s:Nat) (l:AD) (b:Nat),(∀a q,lin (s::(l++[b])) a q->xor (f a) (f q)=w q)->xor (f s) (f b)=par w (l++[b])
 | s,[],b,h=>by
  have:=h s b (by simp[lin])
  simp[par,this]
 | s,c::l,b,h=>by
  have h1:=h s c (by exact .inl ⟨rfl,rfl⟩)
  have e:=seg c l b λa q j=>h a q (by exact .inr j)
  simp  [Ab6,par]
  rw[<- h1,<- e];cases f s <;> cases f c <;> cases f b <;> rfl
theorem aK0 (e:l=u++w)(h:adj (w++u) s q):adj l s q:=by
 rw[e];exact(V6 u w s q).mp h
theorem aK2 (h:lin l s q):adj (l++m) s q:=by
 rw[lin_iff]at h;obtain⟨p,t,e⟩:=h;exact adj_iff.mpr (.inl ⟨p,t++m,by rw[e];simp⟩)
section
variable {r:Nat->AD}{n:Nat}{rim:AD}{R:Nat->Prop}
def gi (rim:AD)(k:Nat):Nat:=rim.getD k 0
theorem t4 (h:k<rim.length):rim[k]? = some (gi rim k):=by
 unfold gi;rw[Ac0,Aa2 h];rfl
theorem M9 (h:k<rim.length):gi rim k∈rim:=Aw (t4 h)
theorem aJ5 (U:rim.Nodup)(c:j<rim.length)(s:k<rim.length)(e:gi rim j=gi rim k):j=k:=by
 have h1:=t4 c
 have m:=t4 s
 rw[<- e]at m;rw[Aa2 c]at h1;rw[Aa2 s]at m;have e':rim[j]=rim[k]:=by rw[Ab4 h1,Ab4 m]
 by_cases X:j<k
 .exact absurd e' (List.pairwise_iff_getElem.mp U j k c s X)
 .by_cases Y:k<j
  .exact absurd e'.symm (List.pairwise_iff_getElem.mp U k j s c Y)
  .lia
theorem aD3 (h:k+1<rim.length):adj rim (gi rim k) (gi rim (k+1)):=by
 refine adj_iff.mpr (.inl ⟨rim.take k,rim.drop (k+2),?_⟩);have h1:=t4 (rim:=rim) (k:=k) zq1;have e:=t4 h;rw[Aa2 zq1]at h1;rw[Aa2 h]at e;rw[<- Ab4 h1,<- Ab4 e];rw[<- List.drop_eq_getElem_cons h,<- List.drop_eq_getElem_cons (show k<rim.length by exact zq1),Ad3]
theorem aF3 (h:0<rim.length):adj rim (gi rim (rim.length-1)) (gi rim 0):=by
 refine adj_iff.mpr (.inr ⟨rim.take (rim.length-1),?_,?_⟩)
 .have h1:=t4 (rim:=rim) (k:=rim.length-1) OO
  rw[Aa2 OO]at h1
  rw[<- Ab4 h1]
  have:=Ad3 (rim.length-1) rim
  rw[Bu OO,List.drop_eq_nil_of_le LL]at this
  exact this.symm
 .rw[List.head?_eq_getElem?];exact t4 h
def nxt (rim:AD)(k:Nat):Nat:=if k+1=rim.length then gi rim 0 else gi rim (k+1)
def prv (rim:AD)(k:Nat):Nat:=if k=0 then gi rim (rim.length-1) else gi rim (k-1)
theorem Tk.row (T:Tk r n rim R)(e:3<=rim.length)(j:k<rim.length):∃I O u w,r (gi rim k)=u++w/\w++u=prv rim k::(I++nxt rim k::O)/\(∀q∈I,¬R q)/\(∀q∈O,R q)/\O≠[]:=by
 refine T.at_ e _ _ _ ?_ ?_
 .unfold prv;by_cases h:k=0
  .rw[Ac h,h];exact aF3 YY
  .rw[Ab h]
   have:=aD3 (rim:=rim) (k:=k-1) OO
   rwa [show k-1+1=k by lia]at this
 .unfold nxt;by_cases h:k+1=rim.length
  .rw[Ac h]
   have:=aF3 (rim:=rim) bM3
   rwa [show rim.length-1=k by lia]at this
  .rw[Ab h];exact aD3 bC1
theorem Tk.tie (T:Tk r n rim R)(s:3<=rim.length)(m:k<rim.length):nxt rim k∈r (gi rim k)/\prv rim k∈r (gi rim k):=by
 obtain⟨I,O,u,w,j,c,_⟩:=T.row s m
 have:∀q,q∈prv rim k::(I++nxt rim k::O)->q∈r (gi rim k):=λq e=>by
  rw[j,Aa0];rw[<- c,Aa0]at e;exact e.symm
 exact⟨this _ SS,this _ SS⟩
theorem cS0 {z f:Nat->Nat->Bool}(Y:∀p s q,adj (r p) s q->xor (f p s) (f p q)=z p q)(J:∀q,z p q=false)(h:q∈r p)(X:q'∈r p):f p q=f p q':=by
 cases e:r p with
 | nil=>rw[e]at h;cases h
 | cons a l=>
  have j:=cP6 (g:=f p) a l λs t c=>by
   have:=Y p s t (by rw[e];unfold adj;rw[lin_iff]at c ⊢;obtain⟨x,y,e'⟩:=c;exact⟨x,y++List.take 1 (a::l),by rw[e'];simp⟩)
   rw[J t]at this;cases h1:f p s <;> cases U:f p t <;> simp[h1,U]at this ⊢
  have m:∀t∈r p,f p t=f p a:=λt ht=>by
   rw[e]at ht;rcases Aa1.mp ht with rfl | ht
   .rfl
   .exact j t ht
  rw[m q h,m q' X]
theorem Tk.cross (G:Good n r)(H:H1 r)(T:Tk r n rim R){i j c l:Nat}(hij:i+2<=j)(hj:j<rim.length)(hic:i<c)(hcj:c<j)(hl:l<rim.length)(hlo:l<i\/j<l)(hAB:gi rim j∈r (gi rim i))(hcl:gi rim l∈r (gi rim c)):False:=by
 have h3:3<=rim.length:=by lia
 have inj:=λ{a b:Nat} (ha:a<rim.length) (hb:b<rim.length)=>aJ5 T.nd ha hb
 obtain⟨IA,OA,uA,wA,a1,a2,a3,a4,a5⟩:=T.row h3 (k:=i) LL
 obtain⟨IB,OB,uB,wB,b1,b2,b3,b4,b5⟩:=T.row h3 hj;generalize hA:gi rim i=A at *;generalize hB:gi rim j=B at *;obtain⟨J,D⟩:=List.exists_mem_of_ne_nil _ a5;obtain⟨M,F⟩:=List.exists_mem_of_ne_nil _ b5;have rA:=T.out A (hA▸M9 LL)
 have rB:=T.out B (hB▸M9 hj)
 have AB:A≠B:=λe=>by have:=inj (a:=i) LL hj (by rw[hA,hB];exact e);lia
 have mA:∀q,q∈prv rim i::(IA++nxt rim i::OA)↔q∈r A:=λq=>by rw[a1,Aa0,<- a2,Aa0];exact Or.comm
 have mB:∀q,q∈prv rim j::(IB++nxt rim j::OB)↔q∈r B:=λq=>by rw[b1,Aa0,<- b2,Aa0];exact Or.comm
 have tA:=(mA J).mp (by simp[D])
 have tB:=(mB M).mp (by simp[F])
 obtain⟨zA,sA,pA,vA⟩:=T.con J (a4 J D);obtain⟨zB,sB,pB,vB⟩:=T.con M (b4 M F)
 let z:=λp q=>xor (ed A B p q) (xor (xor (ed A J p q) (zA p q)) (xor (ed B M p q) (zB p q)))
 have Z:Cyc r z:=by
  refine⟨λp q=>?_,λp q h=>?_,λp=>?_⟩
  .simp only[z];rw[bM6 A B,bM6 A J,bM6 B M,sA p q,sB p q]
  .have e1:∀{X Y},Y∈r X->ed X Y p q=true->q∈r p:=λ{X Y} hXY h=>by
    rcases cE0 h with⟨rfl,rfl⟩ | ⟨rfl,rfl⟩
    .exact hXY
    .exact G.sym hXY
   simp only[z]at h;by_cases c1:ed A B p q=true
   .exact e1 hAB c1
   by_cases c2:ed A J p q=true
   .exact e1 tA c2
   by_cases c3:zA p q=true
   .exact(pA p q c3).1
   by_cases c4:ed B M p q=true
   .exact e1 tB c4
   by_cases c5:zB p q=true
   .exact(pB p q c5).1
   .simp[c1,c2,c3,c4,c5]at h
  .have e:par (z p) (r p)=xor (par (ed A B p) (r p)) (xor (xor (par (ed A J p) (r p)) (par (zA p) (r p))) (xor (par (ed B M p) (r p)) (par (zB p) (r p)))):=by
    rw[<- j5,<- j5,<- j5,<- j5]
   rw[e,bP4 G hAB,bP4 G tA,bP4 G tB,vA,vB];cases decide (p=A) <;> cases decide (p=B) <;> cases decide (p=J) <;> cases decide (p=M) <;> cases decide (p=2) <;> rfl
 obtain⟨f,fr,fb⟩:=H z Z;have fb':∀p q,q∈r p->xor (f p q) (f q p)=z p q:=λp q hq=>by
  obtain⟨s,hs⟩:=aO7 hq;rw[<- fb p s q hs,fr _ _ _ hs,fr _ _ _ (G.tri _ _ _ hs)];cases f q p <;> cases f p q <;> rfl
 have clean:∀p,¬R p->p≠A->p≠B->∀q,z p q=false:=λp hp h1 U q=>by
  have n1:ed A B p q=false:=by unfold ed;simp[h1,U]
  have n2:ed A J p q=false:=by
   unfold ed
   have:p≠J:=λe=>hp (e▸a4 J D)
   simp[h1,this]
  have n3:zA p q=false:=by
   cases h:zA p q with
   | false=>rfl
   | true=>exact absurd (pA p q h).2.1 hp
  have n4:ed B M p q=false:=by
   unfold ed
   have:p≠M:=λe=>hp (e▸b4 M F)
   simp[U,this]
  have n5:zB p q=false:=by
   cases h:zB p q with
   | false=>rfl
   | true=>exact absurd (pB p q h).2.1 hp
  simp[z,n1,n2,n3,n4,n5]
 have cg:∀k,k<rim.length->k≠i->k≠j->∀q,z (gi rim k) q=false:=λk hk h1 U=>clean _ (T.out _ (M9 hk)) (λe=>h1 (inj hk LL (by rw[hA];exact e))) (λe=>U (inj hk hj (by rw[hB];exact e)))
 let m:=λk=>f (gi rim k) (nxt rim k)
 have colq:∀k,k<rim.length->k≠i->k≠j->∀q∈r (gi rim k),f (gi rim k) q=m k:=λk hk h1 U q hq=>cS0 fb (cg k hk h1 U) hq (T.tie h3 hk).1
 have same:∀k k',k<rim.length->k≠i->k≠j->k'<rim.length->k'≠i->k'≠j->gi rim k'∈r (gi rim k)->m k=m k':=λk k' h1 U h3 h4 h5 h6 ht=>by
  have e:=fb' _ _ ht
  rw[cg k h1 U h3,colq k h1 U h3 _ ht,colq k' h4 h5 h6 _ (G.sym ht)]at e;cases hx:m k <;> cases hy:m k' <;> simp[hx,hy]at e ⊢
 have nx:∀k,k+1<rim.length->gi rim (k+1)∈r (gi rim k):=λk hk=>by
  have:=(T.tie h3 (k:=k) zq1).1
  unfold nxt at this
  rwa [Ab zq5]at this
 have ins:∀d,i+1+d<j->m (i+1+d)=m (i+1):=by
  intro d;induction d with
  | zero=>intro _;rfl
  | succ d ih=>
   intro hd;rw[<- ih zq1];exact(same _ _ LL LL LL aH5 LL zq5 (nx (i+1+d) aH5)).symm
 have lo:∀d,d<i->m d=m 0:=by
  intro d;induction d with
  | zero=>intro _;rfl
  | succ d ih=>
   intro hd;rw[<- ih zq1];exact(same _ _ LL LL LL LL zq5 LL (nx d LL)).symm
 have hi:∀d,j+1+d<rim.length->m (j+1+d)=m (j+1):=by
  intro d;induction d with
  | zero=>intro _;rfl
  | succ d ih=>
   intro hd;rw[<- ih zq1];exact(same _ _ zq1 LL LL OO LL LL (nx (j+1+d) OO)).symm
 have cross:=same c l aH5 zq4 zq5 hl LL LL hcl
 have cc:m c=m (i+1):=by have:=ins (c-(i+1)) LL;rwa [show i+1+(c-(i+1))=c by lia]at this
 have nB:nxt rim j=gi rim (j+1)\/j+1=rim.length:=by
  unfold nxt;by_cases h:j+1=rim.length
  .exact .inr h
  .rw[Ab h];exact .inl rfl
 have side:∀{P Q o:Nat} {I O u w:AD} {a b:Nat},r P=u++w->w++u=a::(I++b::O)->(∀q∈I,¬R q)->¬R a->¬R b->(∀q,¬R q->z P q=decide (q=Q))->¬R Q->Q∈r P->(∀q∈O,R q)->a≠Q->b≠Q->f P a=f P b->False:=by
  intro P Q o I O u w a b e1 e2 hI ha hb hz hQ hm hO haQ hbQ e;have nd:(a::(I++b::O)).Nodup:=by
   rw[<- e2]
   have:=G.nd P
   rw[e1]at this;exact(Ca.nodup_iff).mp this
  have mI:Q∈I:=by
   have:Q∈a::(I++b::O):=by
    rw[<- e2,Aa0];rw[e1,Aa0]at hm;exact hm.symm
   simp  [Aa1,Aa0]at this
   rcases this with h | h | h | h
   .exact absurd h.symm haQ
   .exact h
   .exact absurd h.symm hbQ
   .exact absurd (hO Q h) hQ
  have s:=seg a I b λs q hs=>fb P s q (aK0 e1 (by
   rw[e2,show a::(I++b::O)=(a::(I++[b]))++O by simp]
   exact aK2 hs))
  have ndI:(I++[b]).Nodup:=by
   rw[Aa5]at nd
   have:=nd.2
   rw[show I++b::O=(I++[b])++O by simp]at this
   exact(Aa4.mp this).1
  rw[aF6 ndI (s:=Q) (by simp[mI]) λq hq hne=>by
   rw[hz q (by
    rcases Aa0.mp hq with h | h
    .exact hI q h
    .rw[Ad8.mp h];exact hb)]
   simp[hne],hz Q hQ,e]at s
  simp at s
 have zA':∀q,¬R q->z A q=decide (q=B):=λq hq=>by
  have n1:ed A B A q=decide (q=B):=by unfold ed;simp[AB]
  have n2:ed A J A q=false:=by
   unfold ed;have h1:q≠J:=λe=>hq (e▸a4 J D)
   have U:A≠J:=λe=>rA (e▸a4 J D)
   simp[h1,U]
  have n3:zA A q=false:=by
   cases h:zA A q with
   | false=>rfl
   | true=>exact absurd (pA A q h).2.1 rA
  have n4:ed B M A q=false:=by
   unfold ed;have U:A≠M:=λe=>rA (e▸b4 M F)
   simp[AB,U]
  have n5:zB A q=false:=by
   cases h:zB A q with
   | false=>rfl
   | true=>exact absurd (pB A q h).2.1 rA
  simp[z,n1,n2,n3,n4,n5]
 have zB':∀q,¬R q->z B q=decide (q=A):=λq hq=>by
  have n1:ed A B B q=decide (q=A):=by unfold ed;simp[Ne.symm AB]
  have n2:ed A J B q=false:=by
   unfold ed;have U:B≠J:=λe=>rB (e▸a4 J D)
   simp[Ne.symm AB,U]
  have n3:zA B q=false:=by
   cases h:zA B q with
   | false=>rfl
   | true=>exact absurd (pA B q h).2.1 rB
  have n4:ed B M B q=false:=by
   unfold ed;have h1:q≠M:=λe=>hq (e▸b4 M F)
   have U:B≠M:=λe=>rB (e▸b4 M F)
   simp[h1,U]
  have n5:zB B q=false:=by
   cases h:zB B q with
   | false=>rfl
   | true=>exact absurd (pB B q h).2.1 rB
  simp[z,n1,n2,n3,n4,n5]
 have see:∀{P Q k},(∀q,¬R q->z P q=decide (q=Q))->k<rim.length->k≠i->k≠j->gi rim k≠Q->gi rim k∈r P->f P (gi rim k)=m k:=λ{P Q k} hz hk h1 U hne hm=>by
  have e:=fb' P (gi rim k) hm
  rw[hz _ (T.out _ (M9 hk)),Aj hne,colq k hk h1 U _ (G.sym hm)]at e;cases hx:f P (gi rim k) <;> cases hy:m k <;> simp[hx,hy]at e ⊢
 by_cases i0:i=0
 .
  have hjl:j<l:=by lia
  have pB':prv rim j=gi rim (j-1):=by unfold prv;rw[Ab LL]
  have nB':nxt rim j=gi rim (j+1):=by unfold nxt;rw[Ab LL]
  have g1:gi rim (j-1)≠A:=λe=>by have:=inj (a:=j-1) (b:=i) LL LL (by rw[hA];exact e);lia
  have g2:gi rim (j+1)≠A:=λe=>by have:=inj (a:=j+1) (b:=i) cN6 LL (by rw[hA];exact e);lia
  rw[pB',nB']at b2;have t:=mB;rw[pB',nB']at t;refine side (o:=0) b1 b2 b3 (T.out _ (M9 LL)) (T.out _ (M9 cN6)) zB' rA (G.sym hAB) b4 g1 g2 ?_
  rw[see zB' LL LL LL g1 ((t _).mp SS),see zB' cN6 XX LL g2 ((t _).mp SS)]
  have e1:=ins (j-1-(i+1)) LL
  rw[show i+1+(j-1-(i+1))=j-1 by lia]at e1
  have e2:=hi (l-(j+1)) LL
  rw[show j+1+(l-(j+1))=l by lia]at e2
  rw[e1,<- cc,cross,e2]
 .have pA':prv rim i=gi rim (i-1):=by unfold prv;rw[Ab i0]
  have nA':nxt rim i=gi rim (i+1):=by unfold nxt;rw[Ab LL]
  have g1:gi rim (i-1)≠B:=λe=>by have:=inj (a:=i-1) LL hj (by rw[hB];exact e);lia
  have g2:gi rim (i+1)≠B:=λe=>by have:=inj (a:=i+1) aH5 hj (by rw[hB];exact e);lia
  rw[pA',nA']at a2;have t:=mA;rw[pA',nA']at t;refine side (o:=0) a1 a2 a3 (T.out _ (M9 LL)) (T.out _ (M9 aH5)) zA' rB hAB a4 g1 g2 ?_
  rw[see zA' LL LL LL g1 ((t _).mp SS),see zA' LL LL LL g2 ((t _).mp SS)]
  rw[<- cc,cross,lo (i-1) LL]
  rcases hlo with h | h
  .exact(lo l h).symm
  .have e2:=hi (l-(j+1)) LL
   rw[show j+1+(l-(j+1))=l by lia]at e2
   have e3:=hi (rim.length-1-(j+1)) LL
   rw[show j+1+(rim.length-1-(j+1))=rim.length-1 by lia]at e3
   rw[e2,<- e3]
   have:=(T.tie h3 (k:=rim.length-1) LL).1
   unfold nxt at this;rw[Ac LL]at this
   exact(same (rim.length-1) 0 LL LL LL LL LL LL this).symm
theorem Tk.free (G:Good n r)(H:H1 r)(T:Tk r n rim R)(m:3<=rim.length):∃i,0<i/\i+1<rim.length/\∀j,j<rim.length->gi rim j∈r (gi rim i)->j+1=i\/j=i+1:=by
 obtain⟨k,⟨i,X,U,M⟩,c⟩:=bW1 (P:=λk=>∃i,i+k<rim.length/\2<=k/\gi rim (i+k)∈r (gi rim i)) ⟨rim.length-1,0,OO,LL,by
  have:=(T.tie m (k:=0) bM3).2
  rwa [show 0+(rim.length-1)=rim.length-1 by simp]⟩
 refine⟨i+1,SS,LL,λl J s=>?_⟩
 by_cases h1:l=i
 .exact .inl XX
 by_cases D:l=i+2
 .exact .inr OO
 exfalso
 have Q:l≠i+1:=λe=>G.self _ (by rw[e]at s;exact s)
 by_cases Y:i<=l/\l<=i+k
 .exact c (l-(i+1)) OO ⟨i+1,LL,LL,by rwa [show i+1+(l-(i+1))=l by lia]⟩
 .exact T.cross G H XX X SS LL J LL M s
end
theorem R5 (h:q∈L):gi L (L.idxOf q)=q:=by
 unfold gi;rw[Ac0,Aa2 (Ax.mpr h)]
 simp
theorem cW5 {L:AD}(e:L.Nodup)(h:k<L.length):L.idxOf (gi L k)=k:=
 aJ5 e (Ax.mpr (M9 h)) h (R5 (M9 h))
theorem dP7 {f:Nat->Bool}(X:L.Nodup)(h:∀a b,adj L a b->xor (f a) (f b)=decide (b=u\/b=w))(s:u∈L)(m:w∈L)(c:u≠w) :
  ∀k,k<L.length->(f (gi L k)=f (gi L 0)↔((0<L.idxOf w/\L.idxOf w<=k)↔(0<L.idxOf u/\L.idxOf u<=k)))
 | 0,hk=>by simp;lia
 | k+1,hk=>by
  have Y:=dP7 X h s m c k zq1
  have j:=h _ _ (aD3 hk)
  have J:gi L (k+1)=u↔L.idxOf u=k+1:=⟨λe=>by rw[<- e];exact cW5 X hk,λe=>by rw[<- e];exact R5 s⟩
  have M:gi L (k+1)=w↔L.idxOf w=k+1:=⟨λe=>by rw[<- e];exact cW5 X hk,λe=>by rw[<- e];exact R5 m⟩
  have R:L.idxOf u≠L.idxOf w:=λe=>c (by rw[<- R5 s,<- R5 m,e])
  by_cases h1:L.idxOf u=k+1
  .have j:xor (f (gi L k)) (f (gi L (k+1)))=true:=by rw[j];simp[J.mpr h1]
   have e:(f (gi L (k+1))=f (gi L 0))↔¬(f (gi L k)=f (gi L 0)):=by
    revert j;cases f (gi L k) <;> cases f (gi L (k+1)) <;> cases f (gi L 0) <;> simp
   rw[e,Y];lia
  .by_cases U:L.idxOf w=k+1
   .have j:xor (f (gi L k)) (f (gi L (k+1)))=true:=by rw[j];simp[M.mpr U]
    have e:(f (gi L (k+1))=f (gi L 0))↔¬(f (gi L k)=f (gi L 0)):=by
     revert j;cases f (gi L k) <;> cases f (gi L (k+1)) <;> cases f (gi L 0) <;> simp
    rw[e,Y];omega
   .have j:xor (f (gi L k)) (f (gi L (k+1)))=false:=by
     rw[j];rw[Ce];intro z;rcases z with z | z
     .exact h1 (J.mp z)
     .exact U (M.mp z)
    have e:f (gi L (k+1))=f (gi L k):=by
     revert j;cases f (gi L k) <;> cases f (gi L (k+1)) <;> simp
    rw[e,Y];lia
theorem arc {f:Nat->Bool}(Y:L.Nodup)(h:∀a b,adj L a b->xor (f a) (f b)=decide (b=u\/b=w))(m:u∈L)(c:w∈L)(j:u≠w)(s:q∈L) :
  (L.idxOf w<L.idxOf u->(f q=f w↔L.idxOf w<=L.idxOf q/\L.idxOf q<L.idxOf u))/\(L.idxOf u<L.idxOf w->(f q=f w↔¬(L.idxOf u<=L.idxOf q/\L.idxOf q<L.idxOf w))):=by
 have a:=dP7 Y h m c j _ (Ax.mpr s)
 have b:=dP7 Y h m c j _ (Ax.mpr c)
 rw[R5 s]at a;rw[R5 c]at b;have e:(f q=f w)↔((f q=f (gi L 0))↔(f w=f (gi L 0))):=by
  cases f q <;> cases f w <;> cases f (gi L 0) <;> simp
 rw[e,a,b];constructor <;> intro z <;> omega
structure Cy (r:Nat->AD)(g:Nat->Nat)(n:Nat):Prop where
 n2:2<=n
 inj:∀j k,j<=n->k<=n->g j=g k->j=k
 tie:∀k,k<n->g (k+1)∈r (g k)
 tie0:g 0∈r (g n)
def nz (g:Nat->Nat)(n k:Nat):Nat:=if k=n then g 0 else g (k+1)
def pz (g:Nat->Nat)(n k:Nat):Nat:=if k=0 then g n else g (k-1)
noncomputable def zc (g:Nat->Nat)(n x y:Nat):Bool:=decide (∃k,k<=n/\((x=g k/\y=nz g n k)\/(y=g k/\x=nz g n k)))
theorem eD3 (h:k<=n):∃k',k'<=n/\nz g n k=g k':=by
 unfold nz;by_cases e:k=n
 .rw[Ac e];exact⟨0,SS,rfl⟩
 .rw[Ab e];exact⟨k+1,bC1,rfl⟩
section
theorem Cy.at_ (C:Cy r g n)(h:k<=n):zc g n (g k) y=true↔(y=pz g n k\/y=nz g n k):=by
 unfold zc;rw[decide_eq_true_iff];constructor
 .rintro⟨k',h',⟨e1,e2⟩ | ⟨e1,e2⟩⟩
  .have:=C.inj _ _ h h' e1
   subst this;exact .inr e2
  .left
   unfold nz at e2;unfold pz;by_cases z:k'=n
   .rw[Ac z]at e2
    have:=C.inj _ _ h SS e2
    rw[Ac this,e1,z]
   .rw[Ab z]at e2
    have:=C.inj _ _ h bC1 e2
    rw[Ab XX,e1,this];rfl
 .rintro (e | e)
  .unfold pz at e;by_cases z:k=0
   .rw[Ac z]at e;exact⟨n,SS,.inr ⟨e,by unfold nz;rw[Ac rfl,z]⟩⟩
   .rw[Ab z]at e;exact⟨k-1,LL,.inr ⟨e,by unfold nz;rw[Ab LL];congr 1;lia⟩⟩
  .exact⟨k,h,.inl ⟨rfl,e⟩⟩
theorem bA0 (x y:Nat):zc g n x y=zc g n y x:=by
 unfold zc
 congr 1
 apply propext
 constructor <;> rintro⟨k,h,z⟩ <;> exact⟨k,h,z.symm⟩
theorem cZ6 (h:∀k,k<=n->x≠g k):zc g n x y=false:=by
 unfold zc;rw[Ce];rintro⟨k,j,⟨e,_⟩ | ⟨_,e⟩⟩
 .exact h k j e
 .obtain⟨s,c,e'⟩:=eD3 j;exact h s c (e.trans e')
theorem Cy.ne (C:Cy r g n)(h:k<=n):pz g n k≠nz g n k:=by
 have j:=C.n2
 unfold pz nz;intro e;by_cases a:k=0 <;> by_cases b:k=n
 .simp_all
 .rw[Ac a,Ab b]at e
  have:=C.inj _ _ SS bC1 e;simp_all
 .rw[Ab a,Ac b]at e
  have:=C.inj _ _ XX SS e;lia
 .rw[Ab a,Ab b]at e
  have:=C.inj _ _ LL bC1 e;simp_all
structure Rs (r:Nat->AD):Prop where
 nd:∀q,(r q).Nodup
 self:∀q,q∉r q
 tri:∀q a b,adj (r q) a b->adj (r a) b q
 sym:∀p q,q∈r p->p∈r q
 h1:H1 r
theorem Cy.nz_mem (S:Rs r)(C:Cy r g n)(h:k<=n):nz g n k∈r (g k):=by
 unfold nz;by_cases e:k=n
 .rw[Ac e,e];exact C.tie0
 .rw[Ab e];exact C.tie k bC1
theorem Cy.pz_mem (S:Rs r)(C:Cy r g n)(h:k<=n):pz g n k∈r (g k):=by
 unfold pz;by_cases e:k=0
 .rw[Ac e,e];exact S.sym _ _ C.tie0
 .rw[Ab e]
  have:=C.tie (k-1) LL
  rw[show k-1+1=k by lia]at this
  exact S.sym _ _ this
theorem Cy.cyc (S:Rs r)(C:Cy r g n):Cyc r (zc g n):=by
 refine⟨bA0,λp q h=>?_,λp=>?_⟩
 .by_cases hp:∃k,k<=n/\p=g k
  .obtain⟨k,j,rfl⟩:=hp;rcases (C.at_ j).mp h with e | e
   .rw[e];exact C.pz_mem S j
   .rw[e];exact C.nz_mem S j
  .rw[cZ6 λk j e=>hp ⟨k,j,e⟩]at h;cases h
 .by_cases hp:∃k,k<=n/\p=g k
  .obtain⟨k,j,rfl⟩:=hp;rw[bM5 (C.ne j) (S.nd _) (C.pz_mem S j) (C.nz_mem S j) λa _ h1 c=>by
    rw[Bool.eq_false_iff];intro z;rcases (C.at_ j).mp z with e | e;exact h1 e;exact c e]
   rw[(C.at_ j).mpr (.inl rfl),(C.at_ j).mpr (.inr rfl)];rfl
  .exact i6 λa _=>cZ6 λk j e=>hp ⟨k,j,e⟩
theorem aR3 (h:y∈l):∃q,adj l y q:=by
 obtain⟨p,s,e⟩:=Ad5 h;cases s with
 | cons q s=>exact⟨q,adj_iff.mpr (.inl ⟨p,s,e⟩)⟩
 | nil=>
  cases j:l.head? with
  | none=>rw[List.head?_eq_none_iff]at j;rw[j]at h;cases h
  | some q=>exact⟨q,adj_iff.mpr (.inr ⟨p,e,j⟩)⟩
structure Sd (r:Nat->AD)(g:Nat->Nat)(n:Nat)(f:Nat->Nat->Bool)(s:Bool):Prop where
 fa:∀q a b,adj (r q) a b->f q a=f a b
 fb:∀p s q,adj (r p) s q->xor (f p s) (f p q)=zc g n p q
 fs:∀k,k<=n->f (g k) (nz g n k)=s
theorem dS7 {z f:Nat->Nat->Bool}(S:Rs r)(m:∀q a b,adj (r q) a b->f q a=f a b)(Y:∀p s q,adj (r p) s q->xor (f p s) (f p q)=z p q)(h:y∈r x)(X:z y x=false):f x y=f y x:=by
 obtain⟨q,j⟩:=aR3 h;have c:=m _ _ _ j;have e:=Y _ _ _ (S.tri _ _ _ j);rw[X]at e;rw[c]
 revert e
 cases f y q <;> cases f y x <;> simp
theorem Cy.arc (S:Rs r)(C:Cy r g n){f:Nat->Nat->Bool}(Y:∀p s q,adj (r p) s q->xor (f p s) (f p q)=zc g n p q)(e:k<=n)(j:r (g k)=u++w)(c:w++u=L)(X:q∈L) :
  (L.idxOf (nz g n k)<L.idxOf (pz g n k)->(f (g k) q=f (g k) (nz g n k)↔L.idxOf (nz g n k)<=L.idxOf q/\L.idxOf q<L.idxOf (pz g n k)))/\(L.idxOf (pz g n k)<L.idxOf (nz g n k)->(f (g k) q=f (g k) (nz g n k)↔¬(L.idxOf (pz g n k)<=L.idxOf q/\L.idxOf q<L.idxOf (nz g n k)))):=by
 have mem:∀x,x∈r (g k)->x∈L:=λx m=>by rw[<- c,Aa0];rw[j,Aa0]at m;exact m.symm
 have U:L.Nodup:=by
  have:=S.nd (g k)
  rw[j]at this;rw[<- c];exact(Ca.nodup_iff).mp this
 refine TT.arc U (λa b h=>?_) (mem _ (C.pz_mem S e)) (mem _ (C.nz_mem S e)) (C.ne e) X
 rw[Y _ _ _ (aK0 j (by rw[c];exact h)),By,C.at_ e]
 simp
theorem Cy.sd (S:Rs r)(C:Cy r g n):∃f s,Sd r g n f s:=by
 obtain⟨f,X,c⟩:=S.h1 _ (C.cyc S);refine⟨f,f (g 0) (nz g n 0),X,c,?_⟩;intro k;induction k with
 | zero=>intro _;rfl
 | succ k Y=>
  intro j;have Y:=Y zq1;rw[<- Y];have e:nz g n k=g (k+1):=by unfold nz;rw[Ab zq5]
  have e':pz g n (k+1)=g k:=by rfl
  rw[e];obtain⟨q,J⟩:=aR3 (C.tie k AO)
  rw[X _ _ _ J];have U:=c _ _ _ (S.tri _ _ _ J);rw[(C.at_ j).mpr (.inl e'.symm)]at U;have m:=C.arc S c j (u:=[]) rfl rfl (by simpa using S.sym _ _ (C.tie k AO))
  rw[e']at m;have R:(r (g (k+1))++[]).idxOf (nz g n (k+1))≠(r (g (k+1))++[]).idxOf (g k):=λz=>C.ne j (by
   rw[<- R5 (L:=r (g (k+1))++[]) (q:=nz g n (k+1)) (by simpa using C.nz_mem S j),z,R5 (by simpa[e']using C.pz_mem S j),e'])
  have M:f (g (k+1)) (g k)≠f (g (k+1)) (nz g n (k+1)):=by
   intro z;rcases Nat.lt_or_gt_of_ne R with l | l
   .have:=(m.1 l).mp z;lia
   .have:=(m.2 l).mp z;simp_all
  revert U M
  cases f (g (k+1)) q <;> cases f (g (k+1)) (g k) <;> cases f (g (k+1)) (nz g n (k+1)) <;> simp
end
theorem V4 (h:adj l.reverse a b):adj l b a:=by
 rcases adj_iff.mp h with⟨p,s,e⟩ | ⟨p,e,j⟩
 .have e:=congrArg List.reverse e
  simp at e
  exact adj_iff.mpr (.inl ⟨s.reverse,p.reverse,by rw[e]⟩)
 .have e':=congrArg List.reverse e
  simp at e'
  refine adj_iff.mpr (.inr ?_);rw[e]at j;cases p with
  | nil=>simp at j;subst j;exact⟨[],by rw[e'];rfl,by rw[e'];rfl⟩
  | cons x p=>
   simp at j;subst j
   exact⟨a::p.reverse,by rw[e'];simp,by rw[e'];rfl⟩
inductive Rc (r:Nat->AD)(sh:Nat->Nat->Prop)(a b:Nat):Nat->Nat->Prop
 | base:Rc r sh a b a b
 | rot {q x y:Nat}:Rc r sh a b q x->adj (r q) x y->Rc r sh a b x y
 | cross {p q:Nat}:Rc r sh a b p q->q∈r p->¬sh p q->Rc r sh a b q p
theorem bW8 {P:Nat->Prop}(h:∀s q,adj l s q->P s->P q)(U:s∈l)(p:P s):∀q∈l,P q:=by
 obtain⟨u,w,e⟩:=Ad5 U;have m:=e;have c:∀k,k<((s::w)++u).length->P (gi ((s::w)++u) k):=by
  intro k;induction k with
  | zero=>intro _;exact p
  | succ k J=>intro X;exact h _ _ (aK0 m (aD3 X)) (J zq1)
 intro q Y;have j:q∈(s::w)++u:=by rw[m]at Y;exact Aa0.mpr (Aa0.mp Y).symm
 have:=c _ (Ax.mpr j)
 rwa [R5 j]at this
theorem bB1 (G:Good n r){P:Nat->Nat->Prop}(rot:∀q x y,adj (r q) x y->P q x->P x y)(U:∀p q,q∈r p->P p q->P q p)(J:b∈r a)(h:P a b):∀p q,q∈r p->P p q:=by
 have one:∀p q,q∈r p->P p q->∀x∈r p,P p x:=λp q Y hp=>bW8 (λs x X F=>by
  have h1:=rot _ _ _ X F
  have Q:=G.tri _ _ _ X
  have D:=rot _ _ _ Q h1
  exact U _ _ (G.sym (B2 X).2) D) Y hp
 have ne:∀x,x<n->∃y,y∈r x:=λx m=>by
  have:=G.two x m
  cases e:r x with
  | nil=>rw[e]at this;simp at this
  | cons y l=>exact⟨y,SS⟩
 have lt:∀{x y},y∈r x->x<n:=λ{x y} j=>by
  rcases De x n with z | z
  .exact z
  .rw[G.hi x z]at j;cases j
 have M:∀x y,y∈r x->(∀q∈r x,P x q)->∀q∈r y,P y q:=λx y j m=>one y x (G.sym j) (U _ _ j (m y j))
 have c:=G.conn (λx=>(∀q∈r x,P x q)↔(∀q∈r 0,P 0 q)) Iff.rfl (λx y m j=>Iff.trans ⟨M y x (G.sym j),M x y j⟩ m)
 have R:=(c a (lt J)).mp (one a b J h)
 intro p q Y;exact(c p (lt Y)).mpr R q Y
section
variable {n:Nat}{r:Nat->AD}{g:Nat->Nat}{N:Nat}{f:Nat->Nat->Bool}{s:Bool}{a b:Nat}
theorem jordan (G:Good n r)(S:Rs r)(C:Cy r g N)(D:Sd r g N f s)(M:zc g N a b=true)(Y:q∈r p):Rc r (λp q=>zc g N p q=true) a b p q↔f p q=f a b:=by
 have J:=(C.cyc S).sup a b M
 have mem:∀{p q},Rc r (λp q=>zc g N p q=true) a b p q->q∈r p:=λh=>by
  induction h with
  | base=>exact J
  | rot _ j _=>exact(B2 (S.tri _ _ _ j)).1
  | cross _ Y _ _=>exact S.sym _ _ Y
 have nf:∀{p q},¬zc g N p q=true->zc g N q p=false:=λ{p q} h=>by rw[bA0];exact Bool.eq_false_iff.mpr h
 constructor
 .intro h
  clear Y
  induction h with
  | base=>rfl
  | rot _ j P=>rw[<- D.fa _ _ _ j];exact P
  | cross h Y hn P=>rw[<- dS7 S D.fa D.fb Y (nf hn)];exact P
 .
  let R:=Rc r (λp q=>zc g N p q=true) a b
  let χ := λp q=>decide (f p q=f a b/\¬R p q)
  have rotR:∀q x y,adj (r q) x y->(R q x↔R x y):=λq x y j=>⟨λh=>.rot h j,λh=>.rot (.rot h (S.tri _ _ _ j)) (S.tri _ _ _ (S.tri _ _ _ j))⟩
  have χr:∀q x y,adj (r q) x y -> χ q x = χ x y:=λq x y j=>by
   show decide _=decide _
   rw[D.fa _ _ _ j,show R q x=R x y from propext (rotR q x y j)]
  have χc:∀p q,q∈r p->zc g N p q=false -> χ p q = χ q p:=λp q Y M=>by
   have z1:¬zc g N p q=true:=by rw[M];simp
   have z2:¬zc g N q p=true:=by rw[bA0,M];simp
   show decide _=decide _
   rw[dS7 S D.fa D.fb Y (by rw[bA0];exact M),show R p q=R q p from propext ⟨λh=>.cross h Y z1,λh=>.cross h (S.sym _ _ Y) z2⟩]
  have ev:∀p,par (λq=>xor (χ q p) (χ p q)) (r p)=false:=λp=>by
   cases e:r p with
   | nil=>rfl
   | cons c l=>
    have sg:=seg (f := χ p) c l c λs q hl=>by
     have j:adj (r p) s q:=by rw[e];unfold adj;simpa using hl
     have h1 := χr _ _ _ j
     have h2 := χr _ _ _ (S.tri _ _ _ j)
     rw[h1,h2]
    rw[Bool.xor_self]at sg;rw[bT7 (show(c::l).Perm (l++[c]) from Ca (l₁:=[c]))]
    exact sg.symm
  have nx:∀k,k<=N->xor (χ (pz g N k) (g k)) (χ (g k) (pz g N k))=xor (χ (nz g N k) (g k)) (χ (g k) (nz g N k)):=λk m=>by
   have:=ev (g k)
   rw[bM5 (C.ne m) (S.nd _) (C.pz_mem S m) (C.nz_mem S m) λc hc h1 h2=>by
    rw[χc _ _ hc (by rw[Bool.eq_false_iff];intro z;rcases (C.at_ m).mp z with e | e;exact h1 e;exact h2 e)];exact Bool.xor_self _]at this
   revert this
   cases χ (pz g N k) (g k) <;> cases χ (g k) (pz g N k) <;> cases χ (nz g N k) (g k) <;> cases χ (g k) (nz g N k) <;> simp
  have all:∀k,k<=N->xor (χ (nz g N k) (g k)) (χ (g k) (nz g N k))=xor (χ (nz g N 0) (g 0)) (χ (g 0) (nz g N 0)):=by
   intro k;induction k with
   | zero=>intro _;rfl
   | succ k P=>
    intro m;rw[<- P zq1,<- nx (k+1) m];have e:nz g N k=g (k+1):=by unfold nz;rw[Ab zq5]
    have e':pz g N (k+1)=g k:=by rfl
    rw[e,e',Bool.xor_comm]
  have zero:∀p q,zc g N p q=true->∃k,k<=N/\((p=g k/\q=nz g N k)\/(q=g k/\p=nz g N k)):=λp q h=>by
   exact Ap h
  have Q : χ a b=false:=by rw[Ce];exact λh=>h.2 .base
  have B : χ b a=false:=by
   rw[Ce];intro h;obtain⟨x,hx⟩:=aR3 J;have f1:=D.fb _ _ _ (S.tri _ _ _ hx);rw[<- D.fa _ _ _ hx,bA0,M,h.1]at f1;simp at f1
  have e0:xor (χ (nz g N 0) (g 0)) (χ (g 0) (nz g N 0))=false:=by
   obtain⟨k,m,⟨X,U⟩ | ⟨X,U⟩⟩:=zero a b M
   .rw[<- all k m,<- X,<- U,Q,B];rfl
   .rw[<- all k m,<- X,<- U,Q,B];rfl
  have cr:∀p q,q∈r p -> χ p q=true -> χ q p=true:=λp q Y h=>by
   cases F:zc g N p q with
   | false=>rw[<- χc p q Y F];exact h
   | true=>
    obtain⟨k,m,⟨X,U⟩ | ⟨X,U⟩⟩:=zero p q F
    .have:=(all k m).trans e0
     rw[<- X,<- U,h]at this
     revert this;cases χ q p <;> simp
    .have:=(all k m).trans e0
     rw[<- X,<- U,h]at this
     revert this;cases χ q p <;> simp
  intro hf;refine Classical.byContradiction λhn=>?_
  have:=bB1 G (λq x y j h=>by rw[<- χr q x y j];exact h) cr Y (Am ⟨hf,hn⟩) a b J
  rw[Q]at this;cases this
theorem Cy.ofList (m:l.Nodup)(Y:3<=l.length)(h:∀a b,adj l a b->b∈r a):Cy r (gi l) (l.length-1):=by
 refine⟨LL,λj k X c e=>aJ5 m LL LL e,λk c=>h _ _ (aD3 LL),h _ _ (aF3 bM3)⟩
theorem X5 (X:l.Nodup)(h3:3<=l.length):zc (gi l) (l.length-1) x y=true↔(adj l x y\/adj l y x):=by
 have nxt:∀k,k<=l.length-1->adj l (gi l k) (nz (gi l) (l.length-1) k):=λk Y=>by
  unfold nz;by_cases e:k=l.length-1
  .rw[Ac e,e];exact aF3 bM3
  .rw[Ab e];exact aD3 LL
 have un:∀{x y Q},adj l x y->adj l x Q->y=Q:=λ{x y Q} h F=>by
  rcases adj_iff.mp h with⟨p,s,e⟩ | ⟨p,e,hb⟩
  .rcases adj_iff.mp F with⟨U,s',e'⟩ | ⟨U,e',m⟩
   .have B:=F1 X e
    have P:=F1 X e'
    have:p.length=U.length:=by lia
    have:=List.append_inj (e.symm.trans e') this
    simpa using(List.cons.inj (List.cons.inj this.2).2).1
   .have B:=F1 X e
    have P:=F1 X e'
    have M:=congrArg List.length e
    have R:=congrArg List.length e'
    simp at M R;simp_all
  .rcases adj_iff.mp F with⟨U,s',e'⟩ | ⟨U,e',m⟩
   .have B:=F1 X e
    have P:=F1 X e'
    have M:=congrArg List.length e
    have R:=congrArg List.length e'
    simp at M R;simp_all
   .rw[hb]at m;exact Ab4 m
 unfold zc;rw[decide_eq_true_iff];constructor
 .rintro⟨k,Y,⟨j,c⟩ | ⟨j,c⟩⟩
  .rw[j,c];exact .inl (nxt k Y)
  .rw[j,c];exact .inr (nxt k Y)
 .have D:∀{x y},adj l x y->∃k,k<=l.length-1/\x=gi l k/\y=nz (gi l) (l.length-1) k:=λ{x y} h=>by
   have J:=(B2 h).1
   have hl:=Ax.mpr J
   refine⟨l.idxOf x,LL,(R5 J).symm,?_⟩
   have:=nxt (l.idxOf x) LL
   rw[R5 J]at this;exact un h this
  rintro (h | h)
  .obtain⟨k,Y,j,c⟩:=D h;exact⟨k,Y,.inl ⟨j,c⟩⟩
  .obtain⟨k,Y,j,c⟩:=D h;exact⟨k,Y,.inr ⟨j,c⟩⟩
end
theorem lin_rev:lin l.reverse a b↔lin l b a:=by
 rw[lin_iff,lin_iff];constructor
 .rintro⟨p,s,e⟩
  have:=congrArg List.reverse e
  simp at this
  exact⟨s.reverse,p.reverse,by rw[this]⟩
 .rintro⟨p,s,e⟩;exact⟨s.reverse,p.reverse,by rw[e];simp⟩
section
theorem dV0 (c:l.Nodup)(h:adj l x y)(U:adj l x y'):y=y':=by
 rcases adj_iff.mp h with⟨p,s,e⟩ | ⟨p,e,R⟩
 .rcases adj_iff.mp U with⟨X,Q,e'⟩ | ⟨X,e',j⟩
  .have J:=F1 c e
   have M:=F1 c e'
   have:=List.append_inj (e.symm.trans e') LL
   simpa using(List.cons.inj (List.cons.inj this.2).2).1
  .have J:=F1 c e
   have M:=F1 c e'
   have m:=congrArg List.length e
   have Y:=congrArg List.length e'
   simp at m Y;simp_all
 .rcases adj_iff.mp U with⟨X,Q,e'⟩ | ⟨X,e',j⟩
  .have J:=F1 c e
   have M:=F1 c e'
   have m:=congrArg List.length e
   have Y:=congrArg List.length e'
   simp at m Y;simp_all
  .rw[R]at j;exact Ab4 j
theorem Good.outs (G:Good n r):adj (r 0) 2 1/\adj (r 2) 1 0/\adj (r 1) 0 2:=⟨G.tri _ _ _ (G.tri _ _ _ G.out),G.out,G.tri _ _ _ G.out⟩
end
def prd (l:AD)(x:Nat):Nat:=if l.idxOf x=0 then gi l (l.length-1) else gi l (l.idxOf x-1)
theorem dC3 (h:x∈l):adj l (prd l x) x:=by
 have j:=Ax.mpr h
 unfold prd;by_cases e:l.idxOf x=0
 .rw[Ac e]
  have:=aF3 (rim:=l) YY
  rwa [<- e,R5 h]at this
 .rw[Ab e]
  have:=aD3 (rim:=l) (k:=l.idxOf x-1) LL
  rwa [show l.idxOf x-1+1=l.idxOf x by lia,R5 h]at this
def th (r:Nat->AD)(p q:Nat):Nat:=prd (r q) p
def nrm (x y z:Nat):AD:=if x<y/\x<z then [x,y,z] else if y<z/\y<x then [y,z,x] else [z,x,y]
def lnd (r:Nat->AD)(p q:Nat):AD:=nrm p q (th r p q)
section
theorem Good.th (G:Good n r)(h:q∈r p):adj (r p) q (th r p q):=G.tri _ _ _ (G.tri _ _ _ (dC3 (G.sym h)))
theorem Good.th_mem (G:Good n r)(h:q∈r p):TT.th r p q∈r q/\p∈r (TT.th r p q):=by
 have:=G.th h
 have h1:=B2 (G.tri _ _ _ this)
 have e:=B2 (G.tri _ _ _ (G.tri _ _ _ this))
 exact⟨h1.1,e.1⟩
theorem Good.th_ne (G:Good n r)(h:q∈r p):p≠q/\q≠TT.th r p q/\p≠TT.th r p q:=by
 have s:∀{a b},b∈r a->a≠b:=λ{a b} h e=>G.self a (by rw[<- e]at h;exact h)
 have:=G.th_mem h
 exact⟨s h,s this.1,λe=>s this.2 e.symm⟩
theorem Good.th_un (G:Good n r)(h:adj (r p) q x):x=TT.th r p q:=dV0 (G.nd p) h (G.th (B2 h).1)
theorem Good.th_rot (G:Good n r)(h:q∈r p):TT.th r q (TT.th r p q)=p:=(G.th_un (G.tri _ _ _ (G.th h))).symm
theorem Good.th_rot2 (G:Good n r)(h:q∈r p):TT.th r (TT.th r p q) p=q:=(G.th_un (G.tri _ _ _ (G.tri _ _ _ (G.th h)))).symm
theorem dH2 (h1:x≠y)(e:y≠z)(j:x≠z):nrm x y z=nrm y z x:=by
 unfold nrm;by_cases a:x<y/\x<z
 .rw[Ac a,Ab LL,Ab LL]
 .rw[Ab a];by_cases b:y<z/\y<x
  .rw[Ac b,Ac OO]
  .rw[Ab b,Ab OO,Ac LL]
theorem Good.lnd_rot (G:Good n r)(h:q∈r p):lnd r p q=lnd r q (TT.th r p q):=by
 obtain⟨a,b,c⟩:=G.th_ne h;unfold lnd;rw[G.th_rot h];exact dH2 a b c
theorem S3 (x y z:Nat):nrm x y z=[x,y,z]\/nrm x y z=[y,z,x]\/nrm x y z=[z,x,y]:=by
 unfold nrm;split
 .exact .inl rfl
 .split
  .exact .inr (.inl rfl)
  .exact .inr (.inr rfl)
theorem Good.lnd_eq (G:Good n r)(h:q∈r p)(j:q'∈r p')(e:lnd r p q=lnd r p' q'):(p'=p/\q'=q)\/(p'=q/\q'=TT.th r p q)\/(p'=TT.th r p q/\q'=p):=by
 have X:=G.th_rot j
 have U:=G.th_rot2 j
 have m:=G.th_rot h
 have Y:=G.th_rot2 h
 unfold lnd at e;generalize TT.th r p q=t at *;generalize s:TT.th r p' q'=t' at *;rcases S3 p q t with e1 | e1 | e1 <;> rcases S3 p' q' t' with e2 | e2 | e2 <;> rw[e1,e2]at e <;> simp  [Bv,and_true]at e <;> obtain⟨a,b,c⟩:=e <;> subst a b c <;> simp
theorem bT2 (G:Good n r){P:Nat->Nat->Prop}(rot:∀q x y,adj (r q) x y->(P q x↔P x y))(h:q∈r p)(s:q'∈r p')(e:lnd r p q=lnd r p' q'):P p q↔P p' q':=by
 have j:=rot _ _ _ (G.th h)
 have c:=rot _ _ _ (G.tri _ _ _ (G.th h))
 rcases G.lnd_eq h s e with⟨rfl,rfl⟩ | ⟨rfl,rfl⟩ | ⟨rfl,rfl⟩
 .exact Iff.rfl
 .exact j
 .exact j.trans c
def gps (r:Nat->AD)(n:Nat):List (Nat×Nat):=((List.range n).map λp=>(r p).map λq=>(p,q)).flatten
theorem Good.gps_mem (G:Good n r):x∈gps r n↔x.2∈r x.1:=by
 unfold gps;simp  [List.mem_flatten,Aa8,Ab5];constructor
 .rintro⟨l,⟨p,hp,rfl⟩,hx⟩;obtain⟨q,e,rfl⟩:=Aa8.mp hx;exact e
 .intro h;refine⟨_,⟨x.1,?_,rfl⟩,Aa8.mpr ⟨x.2,h,rfl⟩⟩;rcases De x.1 n with z | z
  .exact z
  .rw[G.hi _ z]at h;cases h
theorem Good.gps_nd (G:Good n r):(gps r n).Nodup:=by
 have j:∀m,(((List.range m).map λp=>(r p).map λq=>(p,q)).flatten).Nodup:=λm=>by
  induction m with
  | zero=>simp
  | succ m Y=>
   rw[Bq,Ad2,List.flatten_append,Aa4];refine⟨Y,?_,λx c y s e=>?_⟩
   .simp  [Ac7,Cw,Cs,List.flatten_nil,Bf]
    rw[Ac6,Ae0];exact(Ac6.mp (G.nd m)).imp λ{a b} h e=>h (congrArg Prod.snd e)
   .subst e;simp  [List.mem_flatten,Aa8,Ab5,Ac7,Cw,Cs,List.flatten_nil,Bf]at c s;obtain⟨l,⟨p,hp,rfl⟩,h1⟩:=c;obtain⟨q,_,rfl⟩:=Aa8.mp h1;obtain⟨X,_,e⟩:=s
    have:=congrArg Prod.fst e
    simp_all
 exact j n
theorem Good.gps_len (G:Good n r):(gps r n).length+12=6*n:=by
 have:=G.sum
 unfold gps;simpa[Function.comp_def]using this
def low (r:Nat->AD)(x:Nat×Nat):Bool:=decide (x.1<x.2)&&decide (x.1<th r x.1 x.2)
def rds (r:Nat->AD)(n:Nat):AA:=((gps r n).filter (low r)).map λx=>[x.1,x.2,th r x.1 x.2]
theorem j3 {a b c:Nat}(h1:a≠b)(e:b≠c)(j:a≠c):((a<b/\a<c)/\(¬b<a\/¬b<c)/\(¬c<a\/¬c<b))\/((¬a<b\/¬a<c)/\(b<a/\b<c)/\(¬c<a\/¬c<b))\/((¬a<b\/¬a<c)/\(¬b<a\/¬b<c)/\(c<a/\c<b)):=by lia
theorem aT7 {α:Type}[DecidableEq α]{l:List α}(j:l.Nodup):∀{m:List α},(∀x∈l,x∈m)->l.length<=m.length:=by
 induction l with
 | nil=>simp
 | cons a l s=>
  intro m h;rw[Aa5]at j
  have:=s j.2 (m:=m.erase a) λx c=>by
   refine(List.mem_erase_of_ne ?_).mpr (h x (by simp[c]))
   intro e;subst e;exact j.1 c
  rw[Cq (h a SS)]at this
  have hp:=Cz (h a SS)
  simp;lia
theorem Good.rds_len (G:Good n r):(rds r n).length+4=2*n:=by
 unfold rds;rw[Aa3];have tot:=G.gps_len
 let φ:Nat×Nat->Nat×Nat:=λx=>(x.2,TT.th r x.1 x.2)
 have mφ:∀x∈gps r n,φ x∈gps r n:=λx j=>G.gps_mem.mpr (G.th_mem (G.gps_mem.mp j)).1
 have iφ:∀x∈gps r n,∀y∈gps r n,φ x=φ y->x=y:=λx j y Y e=>by
  have h1:x.2=y.2:=congrArg Prod.fst e
  have Q:TT.th r x.1 x.2=TT.th r y.1 y.2:=congrArg Prod.snd e
  have P:=G.th_rot (G.gps_mem.mp j)
  have k2:=G.th_rot (G.gps_mem.mp Y)
  rw[Q,h1]at P;exact Prod.ext (P.symm.trans k2) h1
 let s:Nat×Nat->Bool:=λx=>decide (x.2<x.1)&&decide (x.2<TT.th r x.1 x.2)
 let m:Nat×Nat->Bool:=λx=>decide (TT.th r x.1 x.2<x.1)&&decide (TT.th r x.1 x.2<x.2)
 have nd:=G.gps_nd
 have F:∀b:Nat×Nat->Bool,(((gps r n).filter b).map φ).Nodup:=λb=>by
  rw[Ac6,Ae0];exact Cr (λ{x y} j Y D e=>D (iφ x (Ah.mp j).1 y (Ah.mp Y).1 e)) (Ac6.mp (nd.filter b))
 have step:∀b U:Nat×Nat->Bool,(∀x∈gps r n,b x=true->U (φ x)=true)->((gps r n).filter b).length<=((gps r n).filter U).length:=λb U h=>by
  rw[<- Aa3];refine aT7 (F b) λy Y=>?_
  obtain⟨x,j,rfl⟩:=Aa8.mp Y;obtain⟨h1,Q⟩:=Ah.mp j;exact Ah.mpr ⟨mφ x h1,h x h1 Q⟩
 have s10:=step s (low r) λx j h=>by
  have k:=G.th_rot (G.gps_mem.mp j)
  simp  [s,low,φ,As,Ai]at h ⊢
  rw[k];exact⟨h.2,h.1⟩
 have s21:=step m s λx j h=>by
  have k:=G.th_rot (G.gps_mem.mp j)
  simp  [s,m,φ,As,Ai]at h ⊢
  rw[k];exact⟨h.2,h.1⟩
 have s02:=step (low r) m λx j h=>by
  have k:=G.th_rot (G.gps_mem.mp j)
  simp  [low,m,φ,As,Ai]at h ⊢
  rw[k];exact⟨h.1,h.2⟩
 have X:∀l:List (Nat×Nat),(∀x∈l,x∈gps r n)->(l.filter (low r)).length+(l.filter s).length+(l.filter m).length=l.length:=λl=>by
  induction l with
  | nil=>intro _;rfl
  | cons x l B=>
   intro h;have B:=B λy Y=>h y (by simp[Y])
   obtain⟨a,b,c⟩:=G.th_ne (G.gps_mem.mp (h x SS))
   have d:(low r x=true/\s x=false/\m x=false)\/(low r x=false/\s x=true/\m x=false)\/(low r x=false/\s x=false/\m x=true):=by
    simp only[low,s,m,As,Bool.and_eq_false_iff,Ai,Ce];exact j3 a b c
   rcases d with⟨J,M,R⟩ | ⟨J,M,R⟩ | ⟨J,M,R⟩ <;> simp only[List.filter_cons,J,M,R,if_true,Au] <;> simp <;> lia
 have:=X (gps r n) λ_ h=>h
 lia
theorem Good.rds_mem (G:Good n r):l∈rds r n↔∃p q,q∈r p/\l=lnd r p q:=by
 unfold rds;simp only[Aa8,Ah];constructor
 .rintro⟨x,⟨hx,hl⟩,rfl⟩;refine⟨x.1,x.2,G.gps_mem.mp hx,?_⟩;simp  [low,As,Ai]at hl;unfold lnd nrm;rw[Ac hl]
 .rintro⟨p,q,hq,rfl⟩;obtain⟨a,b,c⟩:=G.th_ne hq;have m:=G.th_mem hq;have j:=G.th_rot hq;have s:=G.th_rot2 hq;unfold lnd nrm;by_cases h1:p<q/\p<TT.th r p q
  .rw[Ac h1];exact⟨(p,q),⟨G.gps_mem.mpr hq,by simp[low,h1]⟩,rfl⟩
  .rw[Ab h1];by_cases e:q<TT.th r p q/\q<p
   .rw[Ac e];exact⟨(q,TT.th r p q),⟨G.gps_mem.mpr m.1,by simp[low,j,e]⟩,by simp[j]⟩
   .rw[Ab e];exact⟨(TT.th r p q,p),⟨G.gps_mem.mpr m.2,by simp[low,s];lia⟩,by simp[s]⟩
theorem Good.rds_nd (G:Good n r):(rds r n).Nodup:=by
 unfold rds;rw[Ac6,Ae0];exact(Ac6.mp (G.gps_nd.filter _)).imp λ{x y} h e=>h (by
  simp  [Bv,and_true]at e
  exact Prod.ext e.1 e.2.1)
end
def wys:AD->List (Nat×Nat)
 | [x,y,z]=>[(z,x),(x,y),(y,z)]
 | _=>[]
structure BS where
 rch:AA
 crs:List (Nat×Nat)
 row:List (Nat×Nat)
 k:Nat
def stp (r:Nat->AD)(sh:List (Nat×Nat))(s:BS):BS:=
 if s.k<s.row.length then
  if lnd r (s.row.getD s.k (0,0)).2 (s.row.getD s.k (0,0)).1∉s.rch/\s.row.getD s.k (0,0)∉sh/\((s.row.getD s.k (0,0)).2,(s.row.getD s.k (0,0)).1)∉sh then
   ⟨s.rch++[lnd r (s.row.getD s.k (0,0)).2 (s.row.getD s.k (0,0)).1],s.crs++[s.row.getD s.k (0,0)],s.row++wys (lnd r (s.row.getD s.k (0,0)).2 (s.row.getD s.k (0,0)).1),s.k+1⟩
  else⟨s.rch,s.crs,s.row,s.k+1⟩
 else s
def run (r:Nat->AD)(sh:List (Nat×Nat))(s:BS):Nat->BS
 | 0=>s
 | m+1=>stp r sh (run r sh s m)
def ini (l:AD):BS:=⟨[l],[],wys l,0⟩
def shP (sh:List (Nat×Nat))(p q:Nat):Prop:=(p,q)∈sh\/(q,p)∈sh
section
variable {n:Nat}{r:Nat->AD}{sh:List (Nat×Nat)}{a b:Nat}
theorem Good.wys_lnd (G:Good n r)(h:q∈r p):x∈wys (lnd r p q)↔(x=(p,q)\/x=(q,TT.th r p q)\/x=(TT.th r p q,p)):=by
 unfold lnd;rcases S3 p q (TT.th r p q) with e | e | e <;> rw[e] <;> simp  [wys,Aa1,Ac2,or_false] <;> constructor <;> intro z <;> rcases z with z | z | z <;> simp[z]
theorem Good.wys_len (G:Good n r):(wys (lnd r p q)).length=3:=by
 unfold lnd;rcases S3 p q (TT.th r p q) with e | e | e <;> rw[e] <;> rfl
theorem Good.wys_back (G:Good n r)(h:q∈r p)(c:x∈wys (lnd r p q)):x.2∈r x.1/\lnd r x.1 x.2=lnd r p q:=by
 have m:=G.th_mem h
 have e:=G.lnd_rot h
 have j:=G.lnd_rot m.1
 rw[G.th_rot h]at j;rcases (G.wys_lnd h).mp c with rfl | rfl | rfl
 .exact⟨h,rfl⟩
 .exact⟨m.1,e.symm⟩
 .exact⟨m.2,(e.trans j).symm⟩
structure BI (n:Nat)(r:Nat->AD)(sh:List (Nat×Nat))(a b:Nat)(s:BS):Prop where
 e:s.rch=lnd r a b::s.crs.map λx=>lnd r x.2 x.1
 nd:s.rch.Nodup
 rc:∀l∈s.rch,∃p q,q∈r p/\l=lnd r p q/\Rc r (shP sh) a b p q
 row:s.row=(s.rch.map wys).flatten
 k:s.k<=s.row.length
 cl:∀i,i<s.k->¬shP sh (s.row.getD i (0,0)).1 (s.row.getD i (0,0)).2->lnd r (s.row.getD i (0,0)).2 (s.row.getD i (0,0)).1∈s.rch
 tc:∀x∈s.crs,x.2∈r x.1
theorem BI.row_mem (G:Good n r)(B:BI n r sh a b s)(h:x∈s.row):x.2∈r x.1/\lnd r x.1 x.2∈s.rch/\Rc r (shP sh) a b x.1 x.2:=by
 rw[B.row]at h;obtain⟨l,U,m⟩:=List.mem_flatten.mp h;obtain⟨J,e,rfl⟩:=Aa8.mp U;obtain⟨p,q,j,rfl,c⟩:=B.rc J e;obtain⟨h1,X⟩:=G.wys_back j m;refine⟨h1,by rw[X];exact e,?_⟩
 have Y:=Rc.rot c (G.th j)
 have M:=Rc.rot Y (G.tri _ _ _ (G.th j))
 rcases (G.wys_lnd j).mp m with rfl | rfl | rfl
 .exact c
 .exact Y
 .exact M
theorem BI.row_len (B:BI n r sh a b s)(G:Good n r):s.row.length=3*s.rch.length:=by
 rw[B.row]
 have:∀l:AA,(∀x∈l,x∈s.rch)->(l.map wys).flatten.length=3*l.length:=λl=>by
  induction l with
  | nil=>intro _;rfl
  | cons x l j=>
   intro h;obtain⟨p,q,_,rfl,_⟩:=B.rc x (h x SS)
   simp[G.wys_len,j λy e=>h y (by simp[e])];lia
 exact this _ λ_ h=>h
theorem BI.sub (G:Good n r)(B:BI n r sh a b s):s.rch.length+4<=2*n:=by
 have h:=aT7 B.nd λl j=>by
  obtain⟨p,q,c,e,_⟩:=B.rc l j;exact G.rds_mem.mpr ⟨p,q,c,e⟩
 have:=G.rds_len
 lia
theorem dU6 (G:Good n r)(h:b∈r a):BI n r sh a b (ini (lnd r a b)):=
 ⟨rfl,by simp[ini],λl e=>by simp[ini]at e;exact⟨a,b,h,e,.base⟩,by simp[ini],by simp[ini],λi hi=>by simp[ini]at hi,λx j=>by simp[ini]at j⟩
theorem bY3 {α:Type}{l m:List α}{d:α}(h:i<l.length):(l++m).getD i d=l.getD i d:=by
 rw[Ac0,Ac0,Bs h]
theorem BI.stp (G:Good n r)(B:BI n r sh a b s):BI n r sh a b (stp r sh s):=by
 unfold TT.stp;by_cases m:s.k<s.row.length
 .rw[Ac m];have J:s.row.getD s.k (0,0)∈s.row:=by rw[Ac0,Aa2 m];exact Di m
  generalize Y:s.row.getD s.k (0,0)=x at J;obtain⟨U,Q,R⟩:=B.row_mem G J;by_cases c:lnd r x.2 x.1∉s.rch/\x∉sh/\(x.2,x.1)∉sh
  .rw[Ac c];have X:¬shP sh x.1 x.2:=λz=>z.elim c.2.1 c.2.2
   refine⟨?_,?_,λl hl=>?_,?_,?_,λi hi j=>?_,λy hy=>?_⟩
   .rw[B.e];simp
   .rw[Aa4];exact⟨B.nd,SS,λy hy z M e=>c.1 (by rw[Ad8.mp M]at e;rw[<- e];exact hy)⟩
   .rcases Aa0.mp hl with hl | hl
    .exact B.rc l hl
    .exact⟨x.2,x.1,G.sym U,Ad8.mp hl,.cross R U X⟩
   .rw[B.row];simp
   .show s.k+1<=(s.row++_).length
    rw[Ab7];lia
   .have hi:i<s.k+1:=hi
    rw[bY3 cV0];have j:=j;rw[bY3 cV0]at j;rcases De i s.k with z | z
    .exact Ak _ (B.cl i z j)
    .obtain rfl:i=s.k:=by lia
     rw[Y];simp
   .rcases Aa0.mp hy with hy | hy
    .exact B.tc y hy
    .rw[Ad8.mp hy];exact U
  .rw[Ab c];refine⟨B.e,B.nd,B.rc,B.row,m,λi hi j=>?_,B.tc⟩
   have hi:i<s.k+1:=hi
   rcases De i s.k with z | z
   .exact B.cl i z j
   .obtain rfl:i=s.k:=by lia
    have j:=j
    rw[Y]at j ⊢;exact Classical.byContradiction λz=>c ⟨z,λh=>j (.inl h),λh=>j (.inr h)⟩
 .rw[Ab m];exact B
theorem aE3 (G:Good n r)(h:b∈r a):∀m,BI n r sh a b (run r sh (ini (lnd r a b)) m)
 | 0=>dU6 G h
 | m+1=>(aE3 G h m).stp G
theorem cH4 (h:s.row.length<=s.k):stp r sh s=s:=by unfold stp;rw[Ab XX]
theorem cY2 (G:Good n r)(h:b∈r a):∀m,(run r sh (ini (lnd r a b)) m).k=m\/((run r sh (ini (lnd r a b)) m).row.length=(run r sh (ini (lnd r a b)) m).k/\(run r sh (ini (lnd r a b)) m).k<=m)
 | 0=>.inl rfl
 | m+1=>by
  have B:=aE3 G h (sh:=sh) m
  show(stp r sh (run r sh (ini (lnd r a b)) m)).k=m+1\/_
  rcases De (run r sh (ini (lnd r a b)) m).k (run r sh (ini (lnd r a b)) m).row.length with z | z
  .rcases cY2 G h m with e | e
   .left
    unfold stp;rw[Ac z];split <;> (show _+1=m+1;rw[e])
   .simp_all
  .right
   show(stp r sh (run r sh (ini (lnd r a b)) m)).row.length=(stp r sh (run r sh (ini (lnd r a b)) m)).k/\(stp r sh (run r sh (ini (lnd r a b)) m)).k<=m+1
   rw[cH4 z]
   have:=B.k
   rcases cY2 G h m with e | e <;> lia
theorem bU4 (h:(run r sh s m).row.length<=(run r sh s m).k):∀j,run r sh s (m+j)=run r sh s m
 | 0=>rfl
 | j+1=>by show stp r sh (run r sh s (m+j))=_;rw[bU4 h j,cH4 h]
def fin (r:Nat->AD)(sh:List (Nat×Nat))(a b:Nat):BS:=run r sh (ini (lnd r a b)) (100+(r a).length)
theorem dX6 (G:Good n r)(h:b∈r a)(j:n<=10):(fin r sh a b).row.length=(fin r sh a b).k:=by
 have B:=aE3 G h (sh:=sh) (100+(r a).length)
 have l:=B.row_len G
 have s:=B.sub G
 have:=B.k
 rcases cY2 G h (sh:=sh) (100+(r a).length) with e | e
 .lia
 .exact e.1
theorem fin_of (G:Good n r)(h:b∈r a)(c:n<=10)(j:m<=100)(e:(run r sh (ini (lnd r a b)) m).row.length<=(run r sh (ini (lnd r a b)) m).k):run r sh (ini (lnd r a b)) m=fin r sh a b:=by
 unfold fin;rw[show 100+(r a).length=m+(100+(r a).length-m) by lia,bU4 e]
theorem cF7 (G:Good n r)(h:b∈r a)(Y:n<=10):l∈(fin r sh a b).rch↔∃p q,q∈r p/\l=lnd r p q/\Rc r (shP sh) a b p q:=by
 have B:=aE3 G h (sh:=sh) (100+(r a).length)
 have m:=dX6 G h (sh:=sh) Y
 constructor
 .exact B.rc l
 .rintro⟨p,q,hq,rfl,j⟩;have c:∀{p q},Rc r (shP sh) a b p q->q∈r p/\lnd r p q∈(fin r sh a b).rch:=λj=>by
   induction j with
   | base=>exact⟨h,by show _∈(run r sh (ini (lnd r a b)) (100+(r a).length)).rch;rw[B.e];simp⟩
   | @rot q x y _ ha ih=>
    have e:=G.th_un ha
    refine⟨(B2 (G.tri _ _ _ ha)).1,?_⟩;rw[e,<- G.lnd_rot ih.1];exact ih.2
   | @cross p q _ hq hs ih=>
    refine⟨G.sym hq,?_⟩;have X:(p,q)∈(fin r sh a b).row:=by
     show(p,q)∈(run r sh (ini (lnd r a b)) (100+(r a).length)).row
     rw[B.row];exact List.mem_flatten.mpr ⟨_,Aa8.mpr ⟨_,ih.2,rfl⟩,(G.wys_lnd hq).mpr (.inl rfl)⟩
    obtain⟨i,hi,e⟩:=List.getElem_of_mem X;have s:(fin r sh a b).row.getD i (0,0)=(p,q):=by rw[Ac0,Aa2 hi,e];rfl
    have:=B.cl i (by have:=m;unfold fin at this;unfold fin at hi;lia)
    unfold fin at s;rw[s]at this;exact this hs
  exact(c j).2
theorem dZ1 (G:Good n r)(h:b∈r a):(fin r sh a b).rch=lnd r a b::(fin r sh a b).crs.map λx=>lnd r x.2 x.1:=(aE3 G h (100+(r a).length)).e
theorem dI7 (G:Good n r)(h:b∈r a):(fin r sh a b).rch.length+4<=2*n:=(aE3 G h (100+(r a).length)).sub G
theorem dW7 (G:Good n r)(h:b∈r a):∀x∈(fin r sh a b).crs,x.2∈r x.1:=(aE3 G h (100+(r a).length)).tc
theorem i7 {sh sh':Nat->Nat->Prop}(S:∀p q,q∈r p->p∈r q)(tri:∀q a b,adj (r q) a b->adj (r a) b q)(s:b∈r a)(h:∀p q,q∈r p->(sh p q↔sh' p q))(m:Rc r sh a b p q):Rc r sh' a b p q:=by
 induction m with
 | base=>exact .base
 | rot _ c e=>exact .rot e c
 | cross _ j Y e=>exact .cross e j λz=>Y ((h _ _ j).mpr z)
theorem Good.inner_len (G:Good n r):((rds r n).filter λl=>decide (l≠[0,2,1])).length+5=2*n:=by
 have h:=G.rds_len
 have c:[0,2,1]∈rds r n:=G.rds_mem.mpr ⟨0,2,(B2 G.outs.1).1,by
  have:=G.th_un G.outs.1
  unfold lnd;rw[<- this];rfl⟩
 have j:=G.rds_nd
 generalize rds r n=L at h c j;have s:∀L:AA,L.Nodup->[0,2,1]∈L->(L.filter λl=>decide (l≠[0,2,1])).length+1=L.length:=λL=>by
  induction L with
  | nil=>intro _ h;cases h
  | cons x L Y=>
   intro j c;rw[Aa5]at j;by_cases e:x=[0,2,1]
   .subst e;rw[List.filter_cons,Ab SS,List.filter_eq_self.mpr λy m=>by simp;intro z;exact j.1 (z▸m)];rfl
   .rw[List.filter_cons,Ac (by simpa using e),Au,Au,Y j.2 (by rcases Aa1.mp c with z | z;exact absurd z.symm e;exact z)]
 have:=s L j c
 lia
end
end TT
namespace L2
open PySem PySem.Spec PyProof.Rows
open PySem.Builtin PySem.Builtin.Str
end L2
namespace LV
open PySem PySem.Spec PyProof.Rows L2
end LV
namespace L2
open PySem PySem.Spec PyProof.Rows
abbrev bmV:AH:=[.type "ValueError",.type "Exception",.type "BaseException",.type "object"]
abbrev Cx.markd (X:Cx)(e:Value):Cx:={X with A:=X.A.mark (some e),calm:=false,xe:=λ_ _=>False}
abbrev cxU (P:Program)(w:World)(K:Frag)(mg:Str->Option Value)(base:Heap)(N:AJ)(qual:Str)(scope:Scope)(f:Addr)(cd:Value)(A:Around)(outer:List Env)(s:Shared)(H:Hp)(E:XK):Cx:=
 {cB3 CX0 P w K mg base N qual scope f cd A outer s H E with calm:=false,xe:=λ_ _=>False}
end L2
namespace LV
open PySem PySem.Spec PyProof.Rows L2
end LV
namespace L2
open PySem PySem.Spec PyProof.Rows
section
theorem cS6 (M:A.handled=none)(m:s.heap.IsTuple l (intItems xs))(Y:0<xs.size)
  (h:∀v h' tk,(intItems xs)[argBest (λi j=>decide (numAt xs i<numAt xs j)) (xs.size-1)]? = some v->(∀b o,s.heap.get? b=some o->h'.get? b=some o)->Q v {s with heap:=h',toks:=tk}):wpAny (model P w) A (call (.builtin "min") [.ref l]) Q E s:=by
 have c:l<s.heap.objs.size:=by obtain⟨_,e,_⟩:=m;exact Ab3 e
 refine call_min_walk (wpAny_pyIter_tuple m ?_);refine⟨_,_,_,_,_,_,_,rfl,Walks.tuple (A:=A.in1) M _ l (Ab9 c) (intItems xs),⟨⟨_,Ac3 _ rfl,rfl,rfl⟩,bV5 (b:=l) m λo e=>Aa6 _ e⟩,λb X=>?_,by simpa[intItems]using Y,CmpOf.ints_lt (numAt xs) (λ_ _=>intItems_at),λv h' tk J R=>?_⟩
 .rw[Dm];simp  [Aa1,Ac2,or_false]at X;rcases X with rfl | rfl
  .exact Nat.lt_succ_self _
  .exact Dh c
 .exact h v h' tk (by simpa[intItems]using J) λb o e=>R b o (λD=>by
   have U:b=s.heap.objs.size:=by simpa using D
   exact absurd (U▸Ab3 e) (Ad9 _)) (Aa6 _ e)
theorem aT4 (K:Frag)(D:X.calm=true)(h:X.K=K:=by rfl):Q4 X (.builtin "min") (λxs H Q=>∃(p:Addr) (l:AF),xs=[.ref p]/\SqT K H p (l.map V.int)/\l≠[]/\∀M,M∈l->(∀a∈l,M<=a)->Q (.int M) H):=by
 subst h;intro aA s σ H xs us Q I r ⟨p,ns,e,P,m,q⟩;subst e;obtain⟨u,rfl,rx⟩:=U4 r;cases rx;obtain⟨its,rv,pl,_⟩:=I.tuple P;have hi:=LV.N9 rv;obtain⟨xs,e⟩:=hi.allInts.items;have c:ns=xs.toList.map (·.1):=by rw[<- hi.numsOf,<- nums_intItems,<- e]
 have Y:0<xs.size:=by
  have U:=Cv.mpr m;rw[c,Aa3,Bb]at U;exact U
 rw[e]at pl;refine cS6 (I.ok.hd D) pl Y λv h' tk hv B=>?_
 obtain⟨t,rfl⟩:=intItems_at hv;obtain⟨h1,R⟩:=argBest_lt (numAt xs) (xs.size-1);refine⟨.int _,H,I.kept B,⟨_,rfl⟩,q _ ?_ λa J=>?_⟩
 .rw[c,numAt_eq];exact getD_mem (by rw[Aa3,Bb];lia)
 .rw[c]at J;obtain⟨j,F,rfl⟩:=mem_getD J;rw[Aa3,Bb]at F;rw[<- numAt_eq];exact R j LL
end
end L2
namespace LV
open PySem PySem.Spec PyProof.Rows L2
section
variable {K:Frag}{ρ:List Sl}{m:Bool}{t ta tb:TE}{d d':PyData}{ds es:AG}
theorem cC2 {t:TA}(Y:A K false t ρ [tI l])(e:M∈l/\∀a∈l,M<=a):E K m (tCB (λxs H Q=>∃(p:Addr) (l:AF),xs=[.ref p]/\SqT K H p (l.map V.int)/\l≠[]/\∀M,M∈l->(∀a∈l,M<=a)->Q (.int M) H) t) ρ (.int M):=cM6 Y λH vs Q r q=>by
 cases r with
 | cons a b=>
  cases b
  obtain⟨p,rfl,s⟩:=bM0 a;refine⟨p,l,rfl,s,List.ne_nil_of_mem e.1,λj h1 c=>?_⟩
  have:=Int.le_antisymm (c M e.1) (e.2 j h1)
  rw[this];exact q _ λ_=>.int _
end
end LV
namespace K37
open PySem L2 LV PyProof.Rows
theorem aH3:B8 ["ring"] ["ring"] (B3 R7):={}
theorem bF0:B8 ["ring"] ["ring"] (B3 u9):={}
theorem bV3:B8 ["turn", "place"] ["turn", "place"] (B3 aK4):={}
theorem M5:B8 ["turns", "p", "q", "corners", "here", "there", "behind"] ["turns", "p", "q"] (B3 y9):={}
theorem cC8:B8 ["drawing", "p", "q"] ["drawing", "p", "q"] (B3 aR2):={}
theorem aV7:B8 ["drawing", "p", "q"] ["drawing", "p", "q"] (B3 Z3):={}
theorem aI1:B8 ["ring", "first", "at"] ["ring", "first"] (B3 w9):={}
theorem aX2 (l:AD)(k:Nat):(nI l).drop k=nI (l.drop k):=by simp[nI]
theorem bN4 (l:AD)(k:Nat):(nI l).take k=nI (l.take k):=by simp[nI]
def dZ7 (ds:AG)(d:PyData):Prop:=∃(l:AD) (x:Nat),x∈l/\l.length<=10000/\ds=[tN l,.int (x:Int)]/\d=tN (l.drop (l.idxOf x)++l.take (l.idxOf x))
def wys (x y z:Int):List (Int×Int):=[(z,x),(x,y),(y,z)]
def cJ9 (ds es:AG):Prop:=∃x y z:Int,ds=[tI [x,y,z]]/\es=(wys x y z).map pD
def fWy (x y z:Int):PyData->Option PyData
 | .int k=>some (pD (if k=0 then(z,x) else if k=1 then(x,y) else(y,z)))
 | _=>none
def eA7 (ds:AG)(d:PyData):Prop:=∃x y z:Nat,x≠y/\y≠z/\x≠z/\ds=[tN [x,y,z]]/\d=tN (TT.nrm x y z)
def dX9 (ds:AG)(d:PyData):Prop:=∃(l:AD) (x:Nat),x∈l/\l.length<=10000/\ds=[tN l,.int (x:Int)]/\d=.int (TT.prd l x:Nat)
def dY9 (ds:AG)(d:PyData):Prop:=∃(m:Nat) (dr tr:AA) (p q:Nat),Dw m dr tr/\q∈TT.trn dr p/\ds=[tD dr,.int (p:Int),.int (q:Int)]/\d=tN [p,q,TT.th (TT.trn dr) p q]
def eE9 (ds:AG)(d:PyData):Prop:=∃(m:Nat) (dr tr:AA) (p q:Nat),Dw m dr tr/\q∈TT.trn dr p/\ds=[tD dr,.int (p:Int),.int (q:Int)]/\d=.int (TT.th (TT.trn dr) p q:Nat)
def dK3 (ds:AG)(d:PyData):Prop:=∃(m:Nat) (dr tr:AA) (p q:Nat),Dw m dr tr/\q∈TT.trn dr p/\ds=[tD dr,.int (p:Int),.int (q:Int)]/\d=tN (TT.lnd (TT.trn dr) p q)
theorem dB7 (h:x∈l):atI (nI l) ((l.idxOf x:Nat)-1:Int)=some (.int (TT.prd l x:Nat)):=by
 have s:=Ax.mpr h
 unfold TT.prd;by_cases e:l.idxOf x=0
 .rw[Ac e,e];have j:l=l.dropLast++[TT.gi l (l.length-1)]:=by
   have h1:=List.dropLast_concat_getLast (l:=l) (by intro z;rw[z]at h;cases h)
   have c:TT.gi l (l.length-1)=l.getLast (by intro z;rw[z]at h;cases h):=by
    unfold TT.gi;rw[Ac0,Aa2 LL,List.getLast_eq_getElem];rfl
   rw[c];exact h1.symm
  generalize TT.gi l (l.length-1)=y at j;rw[j,m5];exact aM6
 .rw[Ab e];refine M6 (l.idxOf x-1) LL ?_
  unfold nI;rw[Aa9,TT.t4 OO];rfl
theorem Dw.good (h:Dw m dr tr):TT.Good (m+3) (TT.trn dr):=by
 obtain⟨_,_,_,_,B⟩:=h;exact B.good
theorem Dw.tle (h:Dw m dr tr)(p:Nat):(TT.trn dr p).length<=10:=by
 have:=TT.cQ4 (h.good.nd p) (h.good.lt p)
 have:=h.m7
 lia
theorem Dw.lt (h:Dw m dr tr)(e:q∈TT.trn dr p):p<m+3:=by
 rcases De p (m+3) with z | z
 .exact z
 .rw[h.good.hi p z]at e;cases e
theorem Dw.at_ (h:Dw m dr tr)(hp:p<m+3):atI (dr.map tN) (p:Int)=some (tN (TT.trn dr p)):=
 M6 p rfl (by rw[Aa9,bL4 (by rw[h.len];exact hp)];rfl)
section
variable {P:Program}{w:World}{K:Frag}{mg:Str->Option Value}{base:Heap}{a:Ad}
theorem aI3 (T:Tx K mg a):J6 P w K mg base CX0 1 a.aN2 a.aL5 ["ring", "first"] (spV K dZ7):=by
 refine T.t6.F.ok aI1 (S7 (by rintro ds d ⟨_,_,_,_,rfl,_⟩;rfl)) (λY A e s H vs Q E J h=>?_)
 obtain⟨ds,S,d,X,r,⟨l,x,c,U,rfl,rfl⟩,q⟩:=h;refine⟨_,(A6 (psS 2 aI1 (G7 PySem.F.plainAttrs_tuple PySem.F.slot_tuple_index PySem.F.type_tuple_index (r9 K) (pv 0) (A0 (pv 1) A4)))
   (A9 (C0 (B7 (aY2 K) (U3 (cU2 K) (pv 0) (Q8 (pv 2)) aF5) (U3 (cU2 K) (pv 0) aF5 (Q8 (pv 2))))))),G1 X r ?_ q⟩
 have j:=Ac4 c
 refine B1 (F3 (d:=.int (l.idxOf x)) ?_ ?_)
 .have h:=aO8 (K:=K) (m:=true) (ρ:=sl0 ["ring", "first", "at"].length [tI (l.map λ(x:Nat)=>x),.int x]) v0 v1 (Aa8.mpr ⟨x,c,rfl⟩)
  rw[o7 x l]at h;rw[aU0];exact h
 refine K0 (bZ1 (bX3 (A5 rfl) (X4 (A5 rfl)) aR1 (F5 l)) (bX3 (A5 rfl) aR1 (X4 (A5 rfl)) (F5 l)) (W1 _ _ (F5 l)) (W1 _ _ (F5 l)) ?_ ?_) ?_
 .rw[aT2 (by rw[C9];exact zq1),aX2]
  intro z
  have:=congrArg List.length z
  rw[C9,Bm]at this;simp at this
  lia
 .rw[aT2 (by rw[C9];exact zq1),aZ0 (by rw[C9];exact zq1),Bm,Ad1,C9];unfold sizeLine;lia
 .rw[aT2 (by rw[C9];exact zq1),aZ0 (by rw[C9];exact zq1),aX2,bN4,<- m5]
  rfl
theorem aW0 (T:Tx K mg a):J6 P w K mg base CX0 1 a.aO4 a.aN4 ["ring"] (spL K cJ9):=by
 refine T.P6.F.ok bF0 (bB0 (by rintro ds d ⟨_,_,_,rfl,_⟩;rfl)) (λc A e s H vs Q E M h=>?_)
 obtain⟨ds,S,J,X,r,⟨x,y,z,rfl,rfl⟩,q⟩:=h;refine⟨_,(A9 (C0 (K2 (T:=["k"]) (is:=[0]) rfl (.of rfl) (K1 rfl T.J8 (A0 (B4 (aK1 K) RR T.O4 Av (A0 (pv 0) A4)) A4)) (G3 DD) λ_ _ _ _=>⟨(E2 (i:=0) (by decide +kernel:(["k", "ring"]:AJ).Nodup) rfl (Or.inl rfl)),K9,(D0 (A0 (B5 (ixK K) (pv 1) (B7 Q2 (pv 0) A8)) (A0 (B5 (ixK K) (pv 1) (pv 0)) A4)))⟩))),Y9 X r ?_ q⟩
 have Y:=F8 (K:=K) (m:=true) (ρ:=sl0 ["ring"].length [tI [x,y,z]]) (n:=1) (is:=[0]) (g:=F4 0) (fWy x y z) (T4 (j:=3) (A3 (P4 (ds:=[.int x,.int y,.int z]) (A3 v0 A7)) A7) SS SS) DD (λd U=>by
  obtain⟨i,hi⟩:=List.mem_iff_getElem?.mp U;obtain⟨rfl,hi⟩:=T2 hi;refine⟨_,B6,Z9,?_⟩;have hi:i<3:=by assumption
  rcases (show i=0\/i=1\/i=2 by lia) with rfl | rfl | rfl
  .exact G0 (A3 (D8 (i:=((0:Nat))-1) v1 (L8 v0 B0) rfl rfl) (A3 (D8 v1 v0 rfl rfl) A7))
  .exact G0 (A3 (D8 (A5 rfl) (L8 (A5 rfl) B0) rfl rfl) (A3 (D8 (A5 rfl) (A5 rfl) rfl rfl) A7))
  .exact G0 (A3 (D8 (A5 rfl) (L8 (A5 rfl) B0) rfl rfl) (A3 (D8 (A5 rfl) (A5 rfl) rfl rfl) A7)))
 exact aE6 Y rfl
theorem cR5 (T:Tx K mg a):J6 P w K mg base CX0 2 a.Y4 a.Z8 ["ring"] (spV K eA7):=by
 have e := @aI3 P w K mg base a T
 refine T.Y8.F.ok aH3 (S7 (by rintro ds d ⟨_,_,_,_,_,_,rfl,_⟩;rfl)) (λB A Y s H vs Q E hr h=>?_)
 obtain⟨ds,S,d,hS,r,⟨x,y,z,h1,J,R,rfl,rfl⟩,q⟩:=h;refine⟨_,(A9 (C0 (pcl e hr T.t6 (A0 (pv 0) (A0 (B4 (aT4 K rfl) RR T.bA8 boot_min (A0 (pv 0) A4)) A4))))),G1 hS r ?_ q⟩
 obtain⟨M,D,m,hn⟩:∃M:Nat,M∈[x,y,z]/\(∀c∈[(x:Int),y,z],M<=c)/\[x,y,z].drop ([x,y,z].idxOf M)++[x,y,z].take ([x,y,z].idxOf M)=TT.nrm x y z:=by
  unfold TT.nrm;by_cases X:x<y/\x<z
  .rw[Ac X];exact⟨x,SS,λc j=>by simp at j;lia,SS⟩
  .rw[Ab X];by_cases U:y<z/\y<x
   .rw[Ac U];exact⟨y,SS,λc j=>by simp at j;lia,by rw[show [x,y,z].idxOf y=1 from TT.F1 (p:=[x]) (by simp[h1,J,R]) rfl];rfl⟩
   .rw[Ab U];exact⟨z,SS,λc j=>by simp at j;lia,by rw[show [x,y,z].idxOf z=2 from TT.F1 (p:=[x,y]) (by simp[h1,J,R]) rfl];rfl⟩
 refine K0 (C6 (A3 (A5 rfl) (A3 (cC2 (A3 (A5 rfl) A7) ⟨by simp at D ⊢;lia,m⟩) A7)) ⟨[x,y,z],M,D,SS,rfl,rfl⟩) ?_
 rw[hn]
theorem bY2 (T:Tx K mg a):J6 P w K mg base CX0 1 a.bA4 a.bC2 ["turn", "place"] (spV K dX9):=by
 refine T.aJ0.F.ok bV3 (S7 (by rintro ds d ⟨_,_,_,_,rfl,_⟩;rfl)) (λc A e s H vs Q E U h=>?_)
 obtain⟨ds,S,d,Y,r,⟨l,x,j,X,rfl,rfl⟩,q⟩:=h;refine⟨_,(A9 (C0 (B5 (ixK K) (pv 0) (B7 Q2 (G7 PySem.F.plainAttrs_tuple PySem.F.slot_tuple_index PySem.F.type_tuple_index (r9 K) (pv 0) (A0 (pv 1) A4)) A8)))),G1 Y r ?_ q⟩;have h:=aO8 (K:=K) (m:=false) (ρ:=sl0 ["turn", "place"].length [tI (l.map λ(x:Nat)=>x),.int x]) v0 v1 (Aa8.mpr ⟨x,j,rfl⟩)
 rw[o7 x l,<- aU0]at h;exact K0 (D8 (A5 rfl) (L8 h B0) rfl (dB7 j)) rfl
theorem cY1 (T:Tx K mg a):J6 P w K mg base CX0 2 a.aQ7 a.aM9 ["turns", "p", "q"] (spV K dY9):=by
 have e := @bY2 P w K mg base a T
 refine T.aQ1.F.ok M5 (S7 (by rintro ds d ⟨_,_,_,_,_,_,_,rfl,_⟩;rfl)) (λD A J s H vs Q E hr h=>?_)
 obtain⟨ds,S,d,B,r,⟨m,c,tr,p,j,Y,X,rfl,rfl⟩,q⟩:=h;refine⟨_,(A6 (psS 3 M5 (C4 (A0 (pv 1) A4)))
   (A6 (psS 4 M5 (pv 1))
   (A6 (psS 5 M5 (pv 2))
   (A9 (Y7 Al (P3 Y2) (A6 (psS 6 M5 (pcl e hr T.aJ0 (A0 (B5 (ixK K) (pv 0) (pv 5)) (A0 (pv 4) A4))))
   (A6 (N0 (PW.pt (aJ6 (C3 aZ6 (pv 5) (pv 1) (E9 _)) (aX6 (C3 aZ6 (pv 6) (pv 2) (E9 _))))) (A9 (C0 (J9 (cM9 K) RR T.N5 boot_tuple (A0 (pv 3) A4)))) F0)
   (A6 (E4 (G7 Ab1 Ag Af D3 (pv 3) (A0 (pv 5) A4)))
   (A6 (psS 4 M5 (pv 5))
   (A9 (psS 5 M5 (pv 6)))))))))))),G1 B r ?_ q⟩
 have G:=Y.good
 obtain⟨n1,n2,n3⟩:=G.th_ne X;obtain⟨m1,M⟩:=G.th_mem X;have r1:=G.th_rot X;have r2:=G.th_rot2 X;have R:=G.sym X;have s2:=G.sym m1;have s3:=G.sym M;have lp:=Y.lt X;have lq:=Y.lt R;have lt:=Y.lt M;generalize ht:TT.th (TT.trn c) p j=t at *;refine B1 (E1 (E6 (A3 (A5 rfl) A7)) ?_ (show 3<7 by decide))
 refine B1 (F3 (A5 rfl) ?_);refine B1 (F3 (A5 rfl) ?_);refine aF7 (λk ρ=>∃U,U.nb=true/\((k=3/\ρ=[vD c,vI p,vI j,.own (nI [p]),vI p,vI j,U])\/(k=2/\ρ=[vD c,vI p,vI j,.own (nI [p,j]),vI j,vI t,U])\/(k=1/\ρ=[vD c,vI p,vI j,.own (nI [p,j,t]),vI t,vI p,U]))) ⟨3,.no,rfl,.inl ⟨rfl,rfl⟩⟩ ?_
 rintro k ρ' ⟨U,b6,⟨rfl,rfl⟩ | ⟨rfl,rfl⟩ | ⟨rfl,rfl⟩⟩
 .refine⟨true,t_b bS0,?_⟩;rw[Ac rfl];refine B1 (F3 (C6 (A3 (D8 (A5 rfl) (A5 rfl) rfl (Y.at_ lq)) (A3 (A5 rfl) A7)) ⟨TT.trn c j,p,R,by have:=Y.tle j;exact aK6,rfl,by rw[show TT.prd (TT.trn c j) p=t from ht]⟩) ?_)
  refine B1 (X2 (aM5 (C2 (aA3 (A5 rfl) (A5 rfl))) λh=>(C2 (aA3 (A5 rfl) (A5 rfl)))) (λh=>?_) (λh=>G6 ?_))
  .exfalso;simp at h;lia
  refine B1 (J4 rfl (A5 rfl) (by simp[nI];unfold sizeLine;simp) ?_)
  refine B1 (F3 (A5 rfl) ?_);refine F3 (A5 rfl) ⟨2,DD,vI t,rfl,?_⟩
  exact .inr (.inl ⟨rfl,rfl⟩)
 .refine⟨true,t_b bS0,?_⟩;rw[Ac rfl];refine B1 (F3 (C6 (A3 (D8 (A5 rfl) (A5 rfl) rfl (Y.at_ lt)) (A3 (A5 rfl) A7)) ⟨TT.trn c t,j,s2,by have:=Y.tle t;exact aK6,rfl,by rw[show TT.prd (TT.trn c t) j=p from r1]⟩) ?_)
  refine B1 (X2 (aM5 (C2 (aA3 (A5 rfl) (A5 rfl))) λh=>(C2 (aA3 (A5 rfl) (A5 rfl)))) (λh=>?_) (λh=>G6 ?_))
  .exfalso;simp at h;lia
  refine B1 (J4 rfl (A5 rfl) (by simp[nI];unfold sizeLine;decide) ?_)
  refine B1 (F3 (A5 rfl) ?_);refine F3 (A5 rfl) ⟨1,DD,vI p,rfl,?_⟩
  exact .inr (.inr ⟨rfl,rfl⟩)
 .refine⟨true,t_b bS0,?_⟩;rw[Ac rfl];refine B1 (F3 (C6 (A3 (D8 (A5 rfl) (A5 rfl) rfl (Y.at_ lp)) (A3 (A5 rfl) A7)) ⟨TT.trn c p,t,s3,by have:=Y.tle p;exact aK6,rfl,by rw[show TT.prd (TT.trn c p) t=j from r2]⟩) ?_)
  refine B1 (X2 (aM5 (C2 (aA3 (A5 rfl) (A5 rfl))) λh=>(C2 (aA3 (A5 rfl) (A5 rfl)))) (λh=>K0 (V7 (A3 (G9 rfl) A7) (F5 _)) rfl) (λh=>?_))
  exfalso;simp at h
theorem dD8 (T:Tx K mg a):J6 P w K mg base CX0 2 a.bH5 a.bI6 ["drawing", "p", "q"] (spV K eE9):=by
 have j := @bP0 P w K mg base a T
 have e := @bY2 P w K mg base a T
 refine T.bJ3.F.ok cC8 (S7 (by rintro ds d ⟨_,_,_,_,_,_,_,rfl,_⟩;rfl)) (λB A M s H vs Q E R h=>?_)
 obtain⟨ds,S,d,hS,r,⟨m,X,tr,p,Y,c,U,rfl,rfl⟩,q⟩:=h;refine⟨_,(A6 (N0 (W8 (P3 (pcl j R T.bO0 (A0 (pv 0) (A0 (pv 1) (A0 (pv 2) A4)))))) aS9 F0)
   (A9 (C0 (pcl e R T.aJ0 (A0 (B5 (ixK K) (pv 0) (pv 2)) (A0 (pv 1) A4)))))),G1 hS r ?_ q⟩
 have G:=c.good
 have D:=G.sym U
 have lp:=c.lt U
 have lq:=c.lt D
 have J:td X p Y=true:=by
  unfold td
  have:=c.len
  simp only[As,Ai,Ac8];exact⟨⟨SS,LL⟩,Aa8.mpr ⟨Y,U,rfl⟩⟩
 refine B1 (X2 (aB1 (t_b (C6 (A3 (A5 rfl) (A3 (A5 rfl) (A3 (A5 rfl) A7))) ⟨X,p,Y,rfl,by rw[J]⟩))) (λh=>by cases h) (λh=>G6 ?_))
 exact K0 (C6 (A3 (D8 (A5 rfl) (A5 rfl) rfl (c.at_ lq)) (A3 (A5 rfl) A7)) ⟨TT.trn X Y,p,D,by have:=c.tle Y;exact aK6,rfl,rfl⟩) rfl
theorem cV2 (T:Tx K mg a):J6 P w K mg base CX0 3 a.aD1 a.aE8 ["drawing", "p", "q"] (spV K dK3):=by
 have j := @dD8 P w K mg base a T
 have e := @cR5 P w K mg base a T
 refine T.T9.F.ok aV7 (S7 (by rintro ds d ⟨_,_,_,_,_,_,_,rfl,_⟩;rfl)) (λR A c s H vs Q E M h=>?_)
 obtain⟨ds,S,d,D,r,⟨m,X,tr,p,Y,U,J,rfl,rfl⟩,q⟩:=h;refine⟨_,(A9 (C0 (pcl e M T.Y8 (A0 (D0 (A0 (pv 1) (A0 (pv 2) (A0 (pcl j M T.bJ3 (A0 (pv 0) (A0 (pv 1) (A0 (pv 2) A4)))) A4)))) A4)))),G1 D r ?_ q⟩
 obtain⟨B,n2,n3⟩:=U.good.th_ne J;exact K0 (C6 (A3 (G0 (A3 (A5 rfl) (A3 (A5 rfl) (A3 (C6 (A3 (A5 rfl) (A3 (A5 rfl) (A3 (A5 rfl) A7))) ⟨m,X,tr,p,Y,U,J,rfl,rfl⟩) A7)))) A7) ⟨p,Y,TT.th (TT.trn X) p Y,B,n2,n3,rfl,rfl⟩) rfl
end
theorem K4:B8 ["turns", "seen", "rounds", "p", "turn", "q", "corners", "way"] ["turns"] (B3 t8):={}
def cI (x:Nat×Nat):Int×Int:=((x.1:Int),(x.2:Int))
def bE5 (kvs:List (AF×PyData))(ws:List (Nat×Nat)):List (AF×PyData):=ws.foldl (λa w=>l9 a [(w.1:Int),(w.2:Int)] (.bool true)) kvs
theorem bT0:∀(ws:List (Nat×Nat)) (kvs:List (AF×PyData)) (x y:Nat),(bE5 kvs ws).any (λz=>decide (z.1=[(x:Int),(y:Int)]))=(kvs.any (λz=>decide (z.1=[(x:Int),(y:Int)]))||decide ((x,y)∈ws))
 | [],kvs,x,y=>by simp[bE5]
 | v::ws,kvs,x,y=>by
  have ih:=bT0 ws (l9 kvs [(v.1),(v.2)] (.bool true)) x y
  show(bE5 (l9 kvs [(v.1),(v.2)] (.bool true)) ws).any _=_
  rw[ih,cR1,Bool.or_assoc]
  congr 1
  rw[<- Bool.decide_or];refine Bc.mpr ?_;rw[Aa1];refine or_congr ⟨λh=>?_,λh=>?_⟩ Iff.rfl
  .simp  [Bv,and_true]at h
   exact Prod.ext LL LL
  .rw[<- h]
theorem bD1:∀(ws:List (Nat×Nat)) (kvs:List (AF×PyData)),(bE5 kvs ws).length<=kvs.length+ws.length
 | [],kvs=>by simp[bE5]
 | v::ws,kvs=>by
  have ih:=bD1 ws (l9 kvs [(v.1),(v.2)] (.bool true))
  have:=bR7 kvs [(v.1),(v.2)] (.bool true)
  show(bE5 (l9 kvs [(v.1),(v.2)] (.bool true)) ws).length<=_
  rw[Au];lia
def pre (r:Nat->AD)(i j:Nat):List (Nat×Nat):=TT.gps r i++((r i).take j).map λq=>(i,q)
theorem cS4 (r:Nat->AD)(i:Nat):pre r i 0=TT.gps r i:=by simp[pre]
theorem eA9 (r:Nat->AD)(h:(r i)[j]? = some q):pre r i (j+1)=pre r i j++[(i,q)]:=by
 unfold pre;rw[Dc,h];simp
theorem bO2 (r:Nat->AD)(i:Nat):pre r i (r i).length=TT.gps r (i+1):=by
 unfold pre TT.gps;rw[Co,Bq];simp
theorem mem_gps:x∈TT.gps r n↔x.1<n/\x.2∈r x.1:=by
 unfold TT.gps;simp  [List.mem_flatten,Aa8,Ab5];constructor
 .rintro⟨l,⟨p,hp,rfl⟩,hx⟩;obtain⟨q,e,rfl⟩:=Aa8.mp hx;exact⟨hp,e⟩
 .intro h;exact⟨_,⟨x.1,h.1,rfl⟩,Aa8.mpr ⟨x.2,h.2,rfl⟩⟩
def j3 (r:Nat->AD)(x:Nat×Nat):AD:=[x.1,x.2,TT.th r x.1 x.2]
def KS (r:Nat->AD)(kvs:List (AF×PyData))(ps:List (Nat×Nat)):Prop:=
 ∀x y:Nat,y∈r x->(kvs.any (λz=>decide (z.1=[(x:Int),(y:Int)]))=true↔∃z∈ps,TT.low r z=true/\TT.lnd r x y=j3 r z)
theorem aV9 (h:TT.low r z=true):TT.lnd r z.1 z.2=j3 r z:=by
 unfold TT.low at h;simp  [As,Ai]at h;unfold TT.lnd TT.nrm j3;rw[Ac h]
theorem cY5 (h:j3 r x=j3 r y):x=y:=by
 unfold j3 at h;simp  [Bv]at h;exact Prod.ext h.1 h.2.1
theorem dQ2 (G:TT.Good n r){i j q:Nat}(h:(r i)[j]? = some q)(ks:KS r kvs (pre r i j)):kvs.any (λz=>decide (z.1=[(i:Int),(q:Int)])) = !TT.low r (i,q):=by
 have m:=Aw h
 have k:=ks i q m
 cases Y:TT.low r (i,q) with
 | true=>
  rw[Bool.not_true,Bool.eq_false_iff];intro z;obtain⟨z,hz,h1,s⟩:=k.mp z
  have:=(cY5 ((aV9 Y).symm.trans s)).symm
  subst this;unfold pre at hz;rcases Aa0.mp hz with hz | hz
  .have:=(mem_gps.mp hz).1;simp at this
  .obtain⟨q',U,e⟩:=Aa8.mp hz;have Q:=congrArg Prod.snd e;subst Q;obtain⟨J,X,e'⟩:=List.getElem_of_mem U;have P:J<j:=by simp at X;lia
   have D:=(Ab0.mp h).1
   rw[List.getElem_take]at e'
   have:=TT.aJ5 (G.nd i) (j:=J) aH5 D (by
    unfold TT.gi;rw[Ac0,Ac0,h,Aa2 aH5,e'])
   simp_all
 | false=>
  rw[Bool.not_false];refine k.mpr ?_;obtain⟨a,b,c⟩:=G.th_ne m;obtain⟨F,B⟩:=G.th_mem m;have M:=G.th_rot m;have R:=G.th_rot2 m;have Y:¬(i<q/\i<TT.th r i q):=λz=>by
   have:TT.low r (i,q)=true:=by simp[TT.low,z]
   rw[Y]at this;cases this
  unfold TT.lnd TT.nrm j3;rw[Ab Y];by_cases s:q<TT.th r i q/\q<i
  .rw[Ac s];exact⟨(q,TT.th r i q),Ak _ (mem_gps.mpr ⟨s.2,F⟩),by simp[TT.low,M,s],by simp[M]⟩
  .rw[Ab s];exact⟨(TT.th r i q,i),Ak _ (mem_gps.mpr ⟨LL,B⟩),by simp[TT.low,R];lia,by simp[R]⟩
theorem dR5 (ks:KS r kvs ps)(h:TT.low r x=false):KS r kvs (ps++[x]):=λa b e=>by
 rw[ks a b e];constructor
 .rintro⟨z,hz,k⟩;exact⟨z,Ak _ hz,k⟩
 .rintro⟨z,hz,h1,h2⟩;rcases Aa0.mp hz with hz | hz
  .exact⟨z,hz,h1,h2⟩
  .rw[Ad8.mp hz,h]at h1;cases h1
theorem dW8 (G:TT.Good n r)(c:x.2∈r x.1)(ks:KS r kvs ps)(h:TT.low r x=true):KS r (bE5 kvs (TT.wys (j3 r x))) (ps++[x]):=λa b s=>by
 rw[bT0,Dx,ks a b s,decide_eq_true_iff,<- aV9 h];have w:(a,b)∈TT.wys (TT.lnd r x.1 x.2)↔TT.lnd r a b=TT.lnd r x.1 x.2:=⟨λz=>(G.wys_back c z).2,λz=>by
  rw[G.wys_lnd c];rcases G.lnd_eq c s z.symm with⟨h1,j⟩ | ⟨h1,j⟩ | ⟨h1,j⟩
  .exact .inl (by rw[h1,j])
  .exact .inr (.inl (by rw[h1,j]))
  .exact .inr (.inr (by rw[h1,j]))⟩
 rw[w];constructor
 .rintro (⟨z,hz,k⟩ | e)
  .exact⟨z,Ak _ hz,k⟩
  .exact⟨x,SS,h,e.trans (aV9 h)⟩
 .rintro⟨z,hz,h1,j⟩;rcases Aa0.mp hz with hz | hz
  .exact .inl ⟨z,hz,h1,j⟩
  .rw[Ad8.mp hz]at j;exact .inr (j.trans (aV9 h).symm)
def dO4 (ds es:AG):Prop:=∃(m:Nat) (dr tr:AA),Dw m dr tr/\ds=[tD dr]/\es=(TT.rds (TT.trn dr) (m+3)).map tN
theorem Dw.plen (h:Dw m dr tr):∀i,(TT.gps (TT.trn dr) i).length<=10*i
 | 0=>by simp[TT.gps]
 | i+1=>by
  have:=h.plen i
  have:=h.tle i
  rw[<- bO2];unfold pre;rw[Ab7,Aa3,Co];lia
section
variable {P:Program}{w:World}{K:Frag}{mg:Str->Option Value}{base:Heap}{a:Ad}
theorem cN8 (T:Tx K mg a):J6 P w K mg base CX0 3 a.aO3 a.aQ3 ["turns"] (spL K dO4):=by
 have U := @cY1 P w K mg base a T
 have J := @aW0 P w K mg base a T
 refine T.aN8.F.ok K4 (bB0 (by rintro ds d ⟨_,_,_,_,rfl,_⟩;rfl)) (λcdv A outer s H vs Q E hr h=>?_)
 obtain⟨ds,S,es,hS,r,⟨m,c,tr,dw,rfl,rfl⟩,q⟩:=h;refine⟨_,(A6 (psS 1 K4 bJ8)
   (A6 (psS 2 K4 (C4 A4))
   (A6 (J5 Al rfl (bW0 false K rfl T.j4 (A0 (pv 0) A4)) (i9 rfl (E7 (pgN 3 K4) (E7 (pgN 4 K4) T3))) (A9 (J5 Al rfl (O9 (pv 4)) (pgN 5 K4) (A9 (N0 (C3 (aU5 K hr) (D0 (A0 (pv 3) (A0 (pv 5) A4))) (pv 1) rfl) (A6 (psS 6 K4 (pcl U hr T.aQ1 (A0 (pv 0) (A0 (pv 3) (A0 (pv 5) A4)))))
   (A6 (J5 Al rfl (O2 (pcl J hr T.P6 (A0 (pv 6) A4))) (pgN 7 K4) (A9 (aR0 K hr (pv 1) (pv 7) Y2)))
   (A9 (E4 (G7 Ab1 Ag Af D3 (pv 2) (A0 (pv 6) A4)))))) F0)))))
   (A9 (C0 (pv 2)))))),Y9 hS r ?_ q⟩
 have G:=dw.good
 have m7:=dw.m7
 have hdl:=dw.len
 refine B1 (bC0 bB9 ?_ (show 1<8 by decide))
 refine B1 (E1 (E6 A7) ?_ (show 2<8 by decide))
 refine B1 (N2 (cE9 false (A3 (A5 rfl) A7)) (λi ρ=>∃kvs x3 x4 D M Y,(x3.nb=true/\x4.nb=true/\D.nb=true/\M.nb=true/\Y.nb=true)/\KS (TT.trn c) kvs (TT.gps (TT.trn c) i)/\kvs.length<=3*(TT.gps (TT.trn c) i).length/\ρ=[vD c,.tr (.dic kvs),.own (((((TT.gps (TT.trn c) i).filter (TT.low (TT.trn c))).map (j3 (TT.trn c)))).map tN),x3,x4,D,M,Y]) ⟨[],.no,.no,.no,.no,.no,⟨rfl,rfl,rfl,rfl,rfl⟩,λx y _=>by simp[TT.gps],SS,rfl⟩ ?_ ?_)
 .rintro i d _ hd ⟨kvs,x3,x4,D,M,Y,⟨b3,b4,b5,b6,b7⟩,hks,hkl,rfl⟩;obtain⟨y,hy,rfl⟩:=bQ0 hd;rw[Aa9]at hy;obtain⟨row,h1,rfl⟩:=Ay.mp hy;have hi:=(Ab0.mp h1).1;have er:TT.trn c i=row:=by unfold TT.trn;rw[h1];rfl
  have hp:=dw.plen i
  refine⟨_,aD5 (G4 B6 (G4 B6 Z4)),?_⟩;rw[<- er];show W K _ [vD c,.tr (.dic kvs),.own (((((TT.gps (TT.trn c) i).filter (TT.low (TT.trn c))).map (j3 (TT.trn c)))).map tN),vI i,.val (tN (TT.trn c i)),D,M,Y] _;refine N2 (W3 (A5 rfl)) (λj ρ=>∃kvs D M Y,(D.nb=true/\M.nb=true/\Y.nb=true)/\KS (TT.trn c) kvs (pre (TT.trn c) i j)/\kvs.length<=3*(pre (TT.trn c) i j).length/\ρ=[vD c,.tr (.dic kvs),.own (((((pre (TT.trn c) i j).filter (TT.low (TT.trn c))).map (j3 (TT.trn c)))).map tN),vI i,.val (tN (TT.trn c i)),D,M,Y]) ⟨kvs,D,M,Y,⟨b5,b6,b7⟩,by rw[cS4];exact hks,by rw[cS4];exact hkl,by rw[cS4]⟩ ?_ ?_
  .rintro j d _ hd ⟨kvs,D,M,Y,⟨b5,b6,b7⟩,hks,hkl,rfl⟩;unfold nI at hd;rw[Aa9]at hd;obtain⟨X,B,rfl⟩:=Ay.mp hd;have hq:=Aw B;have hj:=(Ab0.mp B).1;have htl:=dw.tle i;have lowq:=dQ2 G B hks;have R:=eA9 (TT.trn c) B;have hpl:(pre (TT.trn c) i j).length<=110:=by
    unfold pre;rw[Ab7,Aa3,Ad1];lia
   refine⟨_,B6,?_⟩;generalize hF:((pre (TT.trn c) i j).filter (TT.low (TT.trn c))).map (j3 (TT.trn c))=F;have hFl:F.length<=110:=by rw[<- hF,Aa3];exact Aq (List.length_filter_le _ _) hpl
   show W K _ [vD c,.tr (.dic kvs),.own (F.map tN),vI i,.val (tN (TT.trn c i)),vI X,M,Y] _
   have tst:=cH8 (K:=K) (m:=false) (neg:=true) (i:=1) (ks:=[i,X]) (ρ:=[vD c,.tr (.dic kvs),.own (F.map tN),vI i,.val (tN (TT.trn c i)),vI X,M,Y]) (G0 (A3 v3 (A3 v5 A7))) rfl
   rw[lowq]at tst;have e:(true ^^ !TT.low (TT.trn c) (i,X))=TT.low (TT.trn c) (i,X):=by cases TT.low (TT.trn c) (i,X) <;> rfl
   rw[e]at tst;refine X2 (C2 tst) (λhl=>?_) (λhl=>G6 ⟨kvs,vI X,M,Y,⟨rfl,b6,b7⟩,by rw[R];exact dR5 hks hl,by rw[R,Ab7];lia,by rw[R,Bn];simp[hl,hF]⟩)
   refine B1 (F3 (C6 (A3 (A5 rfl) (A3 (A5 rfl) (A3 (A5 rfl) A7))) ⟨m,c,tr,i,X,dw,hq,rfl,rfl⟩) ?_);have hw:(wys i X (TT.th (TT.trn c) i X)).map pD=(TT.wys (j3 (TT.trn c) (i,X))).map λx=>pD (cI x):=rfl
   refine B1 (N2 (T7 (EF.e' (M4 (A3 (A5 rfl) A7) ⟨i,X,(TT.th (TT.trn c) i X),rfl,hw.symm⟩))) (λl ρ=>∃Y,Y.nb=true/\ρ=[vD c,.tr (.dic (bE5 kvs ((TT.wys (j3 (TT.trn c) (i,X))).take l))),.own (F.map tN),vI i,.val (tN (TT.trn c i)),vI X,.val (tN (j3 (TT.trn c) (i,X))),Y]) ⟨Y,b7,rfl⟩ ?_ ?_)
   .rintro l d _ hd ⟨Y,b7,rfl⟩;rw[Aa9]at hd;obtain⟨v,hv,rfl⟩:=Ay.mp hd;have hvl:l<3:=(Ab0.mp hv).1;refine⟨_,B6,?_⟩;have hkp:=bD1 ((TT.wys (j3 (TT.trn c) (i,X))).take l) kvs;rw[Ad1]at hkp;refine bC3 bS0 rfl (LV.E.imm (m:=false) (A5 rfl)) (by unfold sizeLine;lia) ⟨.val (pD (cI v)),rfl,?_⟩
    rw[Dc,hv];unfold bE5;rw[List.foldl_append];rfl
   .rintro _ ⟨Y,b7,rfl⟩;have hkp:=bD1 (TT.wys (j3 (TT.trn c) (i,X))) kvs;have e3:(TT.wys (j3 (TT.trn c) (i,X))).length=3:=rfl;rw[Aa3,Co];refine J4 rfl (A5 rfl) (by rw[Aa3];unfold sizeLine;exact aH7) ⟨bE5 kvs (TT.wys (j3 (TT.trn c) (i,X))),vI X,.val (tN (j3 (TT.trn c) (i,X))),Y,⟨rfl,rfl,b7⟩,by rw[R];exact dW8 G hq hks hl,by rw[R,Ab7,List.length_singleton];lia,?_⟩ (by cases Y <;> first | rfl | cases b7)
    rw[R,Bn,Ad2,Ad2,hF]
    simp[hl]
  .rintro _ ⟨kvs,D,M,Y,⟨b5,b6,b7⟩,hks,hkl,rfl⟩;rw[C9]at *;rw[bO2]at hks hkl;exact⟨kvs,_,_,D,M,Y,⟨rfl,rfl,b5,b6,b7⟩,hks,hkl,by rw[bO2]⟩
 rintro _ ⟨kvs,x3,x4,D,M,Y,_,_,_,rfl⟩;rw[cH0,Aa3,hdl];exact bQ3 rfl rfl
end
set_option maxHeartbeats 4000000
theorem cQ1:B8 ["drawing"] ["drawing"] (B3 bP3):={}
theorem bB3:B8 ["drawing"] ["drawing"] (B3 l8):={}
theorem sc_crossings:B8 ["drawing", "first", "shut", "reached", "crossed", "row", "k", "p", "q", "beyond"] ["drawing", "first", "shut"] (B3 aF2):={}
theorem sc_lands_from:B8 ["drawing", "first", "shut", "beyond"] ["drawing", "first", "shut"] (B3 z4):={}
def cL (l:AD):AF:=l.map λ(x:Nat)=>(x:Int)
theorem bG3 (l:AD):tN l=tI (cL l):=aU0 l
theorem cY6 (L:AA):L.map tN=(L.map cL).map tI:=by rw[Ae3];exact Bj λl _=>bG3 l
theorem aT5 (h:cL a=cL b):a=b:=by
 unfold cL at h
 have:=congrArg (List.map Int.toNat) h
 simpa[Ae3,Function.comp_def]using this
theorem aC4 (a b:AF):PyData.eqv (tI a) (tI b)=decide (a=b):=by
 unfold tI;rw[PyData.eqv];exact V3 aX4 a b
theorem dV8 (l:AD)(L:AA):(L.map tN).any (λz=>PyData.eqv z (tN l))=decide (l∈L):=by
 rw[List.any_map,By,List.any_eq_true,decide_eq_true_iff];constructor
 .rintro⟨x,hx,h⟩;simp  [Function.comp,bG3,aC4,Ai]at h;rw[<- aT5 h];exact hx
 .intro h;exact⟨l,h,by simp[Function.comp,bG3,aC4]⟩
theorem cX6 (h:cI x=cI y):x=y:=by
 have h1:=congrArg Prod.fst h
 have e:=congrArg Prod.snd h
 simp  [cI]at h1 e
 exact Prod.ext LL LL
theorem cV8 (x:Nat×Nat)(sh:List (Nat×Nat)):(sh.map λz=>pD (cI z)).any (λz=>PyData.eqv z (pD (cI x)))=decide (x∈sh):=by
 have:=aR6 (cI x) (sh.map cI)
 rw[Ae3]at this;rw[show(sh.map λz=>pD (cI z))=sh.map (pD ∘ cI) from rfl,this]
 refine Bc.mpr ⟨λh=>?_,λh=>Aa8.mpr ⟨x,h,rfl⟩⟩
 obtain⟨y,j,e⟩:=Aa8.mp h;rw[<- cX6 e];exact j
theorem dH4 (L:AA):Fit (.list (L.map tN)):=(aC8 λd e=>by obtain⟨x,_,rfl⟩:=Aa8.mp e;rw[aU0];exact X0 _).fit
theorem dU9 (l:AD):Fit (tN l):=by rw[aU0];exact FitN.fit (X0 _)
theorem cI5 (L:List (Nat×Nat)):Fit (.list (L.map λz=>pD (cI z))):=(aC8 λd e=>by obtain⟨x,_,rfl⟩:=Aa8.mp e;exact U7 _).fit
theorem cK5 (L:AA):K5 (L.map tN)=true:=e7 bY7 L
def dL5 (ds es:AG):Prop:=∃(m:Nat) (dr tr:AA),Dw m dr tr/\ds=[tD dr]/\es=(R4 ((TT.rds (TT.trn dr) (m+3)).map cL)).map tI
def dO1 (ds es:AG):Prop:=∃(m:Nat) (dr tr:AA),Dw m dr tr/\ds=[tD dr]/\es=((R4 ((TT.rds (TT.trn dr) (m+3)).map cL)).filter λl=>decide (l≠[0,2,1])).map tI
def dM9 (ds es:AG):Prop:=∃(m:Nat) (dr tr:AA) (x y:Nat) (sh:List (Nat×Nat)),Dw m dr tr/\y∈TT.trn dr x/\ds=[tD dr,tN (TT.lnd (TT.trn dr) x y),.list (sh.map λz=>pD (cI z))]/\es=(TT.fin (TT.trn dr) sh x y).crs.map λz=>pD (cI z)
def eD0 (ds es:AG):Prop:=∃(m:Nat) (dr tr:AA) (x y:Nat) (sh:List (Nat×Nat)),Dw m dr tr/\y∈TT.trn dr x/\ds=[tD dr,tN (TT.lnd (TT.trn dr) x y),.list (sh.map λz=>pD (cI z))]/\es=(R4 ((TT.fin (TT.trn dr) sh x y).rch.map cL)).map tI
def fIn (d:PyData):Option PyData:=if PyData.eqv d (tI [0,2,1]) then none else some d
theorem dC2 (L:AC):(L.map tI).filterMap fIn=(L.filter λl=>decide (l≠[0,2,1])).map tI:=by
 induction L with
 | nil=>rfl
 | cons l L j=>
  have e:fIn (tI l)=if l=[0,2,1] then none else some (tI l):=by
   unfold fIn;rw[aC4];by_cases h:l=[0,2,1] <;> simp[h]
  rw[Ac7,Be,e,List.filter_cons];by_cases h:l=[0,2,1]
  .rw[Ac h,Ab (by simp[h])];exact j
  .rw[Ab h,Ac (by simp[h]),Ac7]
   rw[j]
def fB (r:Nat->AD):PyData->Option PyData
 | .tuple [.int p,.int q]=>some (tN (TT.lnd r q.toNat p.toNat))
 | _=>none
theorem dQ6 (r:Nat->AD)(L:List (Nat×Nat)):(L.map λz=>pD (cI z)).filterMap (fB r)=(L.map λz=>TT.lnd r z.2 z.1).map tN:=by
 rw[Ba,Ae3,<- List.filterMap_eq_map];exact L9 λx _=>rfl
theorem aF1 (r:Nat->AD)(p q:Nat):∃a b c:Nat,TT.lnd r p q=[a,b,c]/\(wys (a:Int) (b:Int) (c:Int)).map pD=(TT.wys (TT.lnd r p q)).map λz=>pD (cI z):=by
 unfold TT.lnd;rcases TT.S3 p q (TT.th r p q) with e | e | e <;> rw[e] <;> exact⟨_,_,_,rfl,rfl⟩
section
variable {P:Program}{w:World}{K:Frag}{mg:Str->Option Value}{base:Heap}{a:Ad}
theorem cU1 (T:Tx K mg a):J6 P w K mg base CX0 4 a.cK2 a.cH1 ["drawing"] (spL K dL5):=by
 have j := @cN8 P w K mg base a T
 refine T.cF2.F.ok cQ1 (bB0 (by rintro ds d ⟨_,_,_,_,rfl,_⟩;rfl)) (λD A U s H vs Q E hr h=>?_)
 obtain⟨ds,S,es,B,r,⟨m,c,tr,Y,rfl,rfl⟩,q⟩:=h;refine⟨_,(A9 (C0 (B4 (L5 K) RR T.L4 boot_sorted (A0 (pcl j hr T.aN8 (A0 (pv 0) A4)) A4)))),Y9 B r ?_ q⟩
 have M:=Y.good.rds_len
 have m7:=Y.m7
 have J:=M4 (K:=K) (pre:=dO4) (X:=E0) (ρ:=sl0 ["drawing"].length [tD c]) (A3 v0 A7) ⟨m,c,tr,Y,rfl,rfl⟩
 rw[cY6 (TT.rds (TT.trn c) (m+3))]at J;refine aE6 (p7 (A3 (EF.e' J) A7) (λt ht=>?_) (by rw[Aa3];lia) (C8 _) (Q0 _)) rfl
 obtain⟨l,M,rfl⟩:=Aa8.mp ht;obtain⟨p,R,_,rfl⟩:=Y.good.rds_mem.mp M;unfold TT.lnd;rcases TT.S3 p R (TT.th (TT.trn c) p R) with e | e | e <;> rw[e] <;> simp[cL]
theorem cY9 (T:Tx K mg a):J6 P w K mg base CX0 5 a.aI0 a.aI7 ["drawing"] (spL K dO1):=by
 have j := @cU1 P w K mg base a T
 refine T.aH9.F.ok bB3 (bB0 (by rintro ds d ⟨_,_,_,_,rfl,_⟩;rfl)) (λB A U s H vs Q E R h=>?_)
 obtain⟨ds,S,es,hS,r,⟨m,c,tr,Y,rfl,rfl⟩,q⟩:=h;obtain⟨D,gF,sF⟩:=T.X8;refine⟨_,(A9 (C0 (K2 (T:=["land"]) (is:=[]) rfl (.of rfl) (O2 (pcl j R T.cF2 (A0 (pv 0) A4))) (G3 DD) λ_ _ _ _=>⟨(E2 (i:=0) (by decide +kernel:(["land"]:AJ).Nodup) rfl (Or.inl rfl)),(U1 (C3 (bK4 K R) (pv 0) (aW3 (v:=.ref D) rfl gF rfl) (E9 _))),(pv 0)⟩))),Y9 hS r ?_ q⟩
 have hl:=Y.good.rds_len
 have m7:=Y.m7
 generalize M:R4 ((TT.rds (TT.trn c) (m+3)).map cL)=L;have hLl:L.length<=100:=by rw[<- M,(C8 _).length_eq,Aa3];lia
 have J:=F8 (K:=K) (m:=true) (g:=F4 0) (te:=F6 0) fIn (T7 (EF.e' (M4 (pre:=dL5) (X:=E0) (A3 v0 A7) ⟨m,c,tr,Y,rfl,by rw[M]⟩))) (by rw[Aa3];unfold sizeLine;exact aH7) (λd hd=>by
  obtain⟨l,hl,rfl⟩:=Aa8.mp hd;refine⟨_,B6,?_⟩;have e:=cJ4 (m:=false) (ρ:=(slC (sl0 ["drawing"].length [tD c]) 1 []).set 0 (.val (tI l))) (d':=tI [0,2,1]) v0 (bR2 λH=>.tup (sF H) (.cons (.int _) (.cons (.int _) (.cons (.int _) .nil)))) (FitN.fit (X0 _)) (FitN.fit (X0 _))
  show match (if PyData.eqv (tI l) (tI [0,2,1]) then none else some (tI l)) with | none=>_ | some y=>_
  cases h:PyData.eqv (tI l) (tI [0,2,1]) with
  | true=>rw[h]at e;exact C2 e
  | false=>rw[h]at e;exact⟨C2 e,A5 rfl⟩)
 rw[dC2]at J;exact aE6 J rfl
end
set_option maxHeartbeats 1000000
section
variable {P:Program}{w:World}{K:Frag}{mg:Str->Option Value}{base:Heap}{a:Ad}
theorem cY8 (T:Tx K mg a):J6 P w K mg base CX0 4 a.aU6 a.aU7 ["drawing", "first", "shut"] (spL K dM9):=by
 have c := @aW0 P w K mg base a T
 have X := @cV2 P w K mg base a T
 refine T.aV1.F.ok sc_crossings (bB0 (by rintro ds d ⟨_,_,_,_,_,_,_,_,rfl,_⟩;rfl)) (λcdv A outer s H vs Q E M h=>?_)
 obtain⟨ds,S,es,hS,r,⟨m,Y,tr,x,y,sh,dw,hy,rfl,rfl⟩,q⟩:=h;refine⟨_,(A6 (psS 3 sc_crossings (C4 (A0 (pv 1) A4)))
   (A6 (psS 4 sc_crossings (C4 A4))
   (A6 (psS 5 sc_crossings (pcl c M T.P6 (A0 (pv 1) A4)))
   (A6 (psS 6 sc_crossings A8)
   (A6 (Y7 Al (C3 aU3 (pv 6) (B4 (aK1 K) RR T.O4 Av (A0 (pv 5) A4)) (E9 _)) (A6 (psS 7 sc_crossings (B5 (ixK K) (B5 (ixK K) (pv 5) (pv 6)) A8))
   (A6 (psS 8 sc_crossings (B5 (ixK K) (B5 (ixK K) (pv 5) (pv 6)) A8))
   (A6 (psS 9 sc_crossings (pcl X M T.T9 (A0 (pv 0) (A0 (pv 8) (A0 (pv 7) A4)))))
   (A6 (N0 (PW.pt (aJ6 (C3 (S5 K M) (pv 9) (pv 3) rfl) (aJ6 (C3 (S5 K M) (D0 (A0 (pv 7) (A0 (pv 8) A4))) (pv 2) rfl) (aX6 (C3 (S5 K M) (D0 (A0 (pv 8) (A0 (pv 7) A4))) (pv 2) rfl))))) (A6 (E4 (G7 Ab1 Ag Af D3 (pv 3) (A0 (pv 9) A4)))
   (A6 (E4 (G7 Ab1 Ag Af D3 (pv 4) (A0 (D0 (A0 (pv 7) (A0 (pv 8) A4))) A4)))
   (A9 (E4 (G7 Ab1 PySem.F.slot_list_extend PySem.F.type_list_extend aF4 (pv 5) (A0 (pcl c M T.P6 (A0 (pv 9) A4)) A4)))))) F0)
   (A9 (dS1 (i:=6) sc_crossings.nd rfl (Or.inl rfl) A8 dP9)))))))
   (A9 (C0 (pv 4)))))))),Y9 hS r ?_ q⟩
 have G:=dw.good
 have m7:=dw.m7
 obtain⟨wa,wb,wc,we,ww⟩:=aF1 (TT.trn Y) x y;refine B1 (E1 (E6 (A3 (A5 rfl) A7)) ?_ (show 3<10 by decide))
 refine B1 (E1 (E6 A7) ?_ (show 4<10 by decide))
 refine B1 (E1 (M4 (A3 (A5 rfl) A7) ⟨wa,wb,wc,by rw[we];rfl,ww.symm⟩) ?_ (show 5<10 by decide))
 refine B1 (F3 B0 ?_);refine B1 (aF7 (λk ρ=>∃(j:Nat) (x7 x8 x9:Sl),k+j=200/\(x7.nb=true/\x8.nb=true/\x9.nb=true)/\(TT.run (TT.trn Y) sh (TT.ini (TT.lnd (TT.trn Y) x y)) j).k=j/\ρ=[vD Y,.val (tN (TT.lnd (TT.trn Y) x y)),.val (.list (sh.map λz=>pD (cI z))),.own ((TT.run (TT.trn Y) sh (TT.ini (TT.lnd (TT.trn Y) x y)) j).rch.map tN),.own ((TT.run (TT.trn Y) sh (TT.ini (TT.lnd (TT.trn Y) x y)) j).crs.map λz=>pD (cI z)),.own ((TT.run (TT.trn Y) sh (TT.ini (TT.lnd (TT.trn Y) x y)) j).row.map λz=>pD (cI z)),vI j,x7,x8,x9]) ⟨200,0,.no,.no,.no,rfl,⟨rfl,rfl,rfl⟩,rfl,rfl⟩ ?_)
 .rintro k ρ' ⟨j,x7,x8,x9,hkj,⟨b7,b8,b9⟩,hsk,rfl⟩;have B:=TT.aE3 G hy (sh:=sh) j;have rl:=B.row_len G;have sl:=B.sub G;have bk:=B.k;generalize hs:TT.run (TT.trn Y) sh (TT.ini (TT.lnd (TT.trn Y) x y)) j=s at B rl sl bk hsk;refine⟨decide (j<((s.row.map λz=>pD (cI z)).length:Int)),C2 (aB2 (A5 rfl) (P4 (A3 (G9 rfl) A7))),?_⟩
  rw[Aa3];by_cases hlt:j<s.row.length
  .rw[Am LL,Ac rfl]
   have hx:s.row.getD s.k (0,0)∈s.row:=by rw[Ac0,Aa2 YY];exact Di _
   have D:(s.row)[j]? = some (s.row.getD s.k (0,0)):=by rw[Ac0,hsk,Aa2 hlt];rfl
   have U:TT.run (TT.trn Y) sh (TT.ini (TT.lnd (TT.trn Y) x y)) (j+1)=TT.stp (TT.trn Y) sh s:=by show TT.stp _ _ (TT.run _ _ _ j)=_;rw[hs]
   unfold TT.stp at U;rw[Ac YY]at U
   generalize hz:s.row.getD s.k (0,0)=z at hx D U;obtain⟨m1,m2,m3⟩:=B.row_mem G hx;have R:atI (s.row.map λz=>pD (cI z)) j=some (pD (cI z)):=M6 j rfl (by rw[Aa9,D];rfl)
   refine B1 (F3 (LV.E.imm (D8 (D8 (G9 rfl) (A5 rfl) rfl R) (B0) rfl rfl)) ?_);refine B1 (F3 (LV.E.imm (D8 (D8 (G9 rfl) (A5 rfl) rfl R) (B0) rfl rfl)) ?_);refine B1 (F3 (C6 (A3 (A5 rfl) (A3 (A5 rfl) (A3 (A5 rfl) A7))) ⟨m,Y,tr,z.2,z.1,dw,G.sym m1,rfl,rfl⟩) ?_);show W K _ [vD Y,.val (tN (TT.lnd (TT.trn Y) x y)),.val (.list (sh.map λz=>pD (cI z))),.own (s.rch.map tN),.own (s.crs.map λz=>pD (cI z)),.own (s.row.map λz=>pD (cI z)),vI j,vI (z.1),vI (z.2),.val (tN (TT.lnd (TT.trn Y) z.2 z.1))] _
   generalize J:[vD Y,.val (tN (TT.lnd (TT.trn Y) x y)),.val (.list (sh.map λz=>pD (cI z))),Sl.own (s.rch.map tN),.own (s.crs.map λz=>pD (cI z)),.own (s.row.map λz=>pD (cI z)),vI j,vI (z.1),vI (z.2),.val (tN (TT.lnd (TT.trn Y) z.2 z.1))]=ρ0
   have t1:=W4 (K:=K) (m:=false) (ρ := ρ0) (A5 (i:=9) (by rw[<- J];rfl)) (G9 (i:=3) (by rw[<- J];rfl)) rfl (dU9 _) (dH4 _)
   rw[dV8]at t1;have t2:=W4 (K:=K) (m:=false) (ρ := ρ0) (d:=pD (cI z)) (G0 (A3 (A5 (i:=7) (by rw[<- J];rfl)) (A3 (A5 (i:=8) (by rw[<- J];rfl)) A7))) (A5 (i:=2) (by rw[<- J];rfl)) rfl (U7 _).fit (cI5 _)
   rw[cV8]at t2;have t3:=W4 (K:=K) (m:=false) (ρ := ρ0) (d:=pD (cI (z.2,z.1))) (G0 (A3 (A5 (i:=8) (by rw[<- J];rfl)) (A3 (A5 (i:=7) (by rw[<- J];rfl)) A7))) (A5 (i:=2) (by rw[<- J];rfl)) rfl (U7 _).fit (cI5 _)
   rw[cV8]at t3;generalize hs':TT.run (TT.trn Y) sh (TT.ini (TT.lnd (TT.trn Y) x y)) (j+1)=s' at U;refine B1 (cH9 ([vD Y,.val (tN (TT.lnd (TT.trn Y) x y)),.val (.list (sh.map λz=>pD (cI z))),Sl.own (s'.rch.map tN),.own (s'.crs.map λz=>pD (cI z)),.own (s'.row.map λz=>pD (cI z)),vI j,vI (z.1),vI (z.2),.val (tN (TT.lnd (TT.trn Y) z.2 z.1))]) (aM5 (C2 t1) λ_=>aM5 (C2 t2) λ_=>C2 t3) (λh=>?_) (λh=>G6 ?_) ?_)
   .simp  [As,Bool.not_eq_true',Ce]at h
    rw[Ac h]at U;subst J;obtain⟨va,vb,vc,ve,vw⟩:=aF1 (TT.trn Y) z.2 z.1;refine B1 (J4 rfl (A5 rfl) (by rw[Aa3];unfold sizeLine;lia) ?_)
    have cl:s.crs.length<=100:=by have:=congrArg List.length B.e;simp at this;lia
    refine B1 (J4 rfl (G0 (A3 (A5 rfl) (A3 (A5 rfl) A7))) (by rw[Aa3];unfold sizeLine;exact aH7) ?_)
    refine aG0 rfl (M4 (A3 (A5 rfl) A7) ⟨va,vb,vc,by rw[ve];rfl,rfl⟩) ?_ ?_
    .rw[Aa3];show _+3<=_;unfold sizeLine;lia
    .rw[U,vw];simp only[Ad2,Ac7,Cw];rfl
   .have h':¬(TT.lnd (TT.trn Y) z.2 z.1∉s.rch/\z∉sh/\(z.2,z.1)∉sh):=λhh=>by simp[hh]at h
    rw[Ab h']at U;rw[<- J,U]
   .refine dS9 rfl B0 ⟨199-j,LL,j+1,vI (z.1),vI (z.2),.val (tN (TT.lnd (TT.trn Y) z.2 z.1)),LL,⟨rfl,rfl,rfl⟩,?_,?_⟩
    .rw[hs',U];split <;> (rw[hsk])
    .rw[hs'];rfl
  .rw[Aj LL,Ab Ao]
   have e:=TT.fin_of G hy XX (m:=j) LL (by rw[hs];simp_all)
   rw[hs]at e;exact bQ3 rfl (by rw[e])
end
set_option maxHeartbeats 1000000
section
variable {P:Program}{w:World}{K:Frag}{mg:Str->Option Value}{base:Heap}{a:Ad}
theorem dH7 (T:Tx K mg a):J6 P w K mg base CX0 5 a.aM4 a.aP4 ["drawing", "first", "shut"] (spL K eD0):=by
 have c := @cY8 P w K mg base a T
 have j := @cV2 P w K mg base a T
 refine T.aN3.F.ok sc_lands_from (bB0 (by rintro ds d ⟨_,_,_,_,_,_,_,_,rfl,_⟩;rfl)) (λcdv A B s H vs Q E hr h=>?_)
 obtain⟨ds,S,es,hS,r,⟨m,Y,tr,x,y,sh,J,M,rfl,rfl⟩,q⟩:=h;refine⟨_,(A6 (v9 (i:=3) sc_lands_from.nd rfl rfl (T:=["p", "q"]) (is:=[0]) rfl (.of rfl) (O2 (pcl c hr T.aV1 (A0 (pv 0) (A0 (pv 1) (A0 (pv 2) A4))))) (dR2 DD DD) λ_ _ _ _=>⟨(i9 (n:=2) rfl (E7 (E2 (i:=0) (by decide +kernel:(["p", "q", "drawing"]:AJ).Nodup) rfl (Or.inl rfl)) (E7 (E2 (i:=1) (by decide +kernel:(["p", "q", "drawing"]:AJ).Nodup) rfl (Or.inl rfl)) T3))),K9,(pcl j hr T.T9 (A0 (pv 2) (A0 (pv 1) (A0 (pv 0) A4))))⟩)
   (A9 (C0 (B4 (L5 K) RR T.L4 boot_sorted (A0 (B7 (M7 K) (C4 (A0 (pv 1) A4)) (pv 3)) A4))))),Y9 hS r ?_ q⟩
 have G:=J.good
 have m7:=J.m7
 have U:=TT.dZ1 G M (sh:=sh)
 have hfl:=TT.dI7 G M (sh:=sh)
 have D:=TT.dW7 G M (sh:=sh)
 have cm:=F8 (m:=true) (ρ:=sl0 ["drawing", "first", "shut", "beyond"].length [tD Y,tN (TT.lnd (TT.trn Y) x y),.list (sh.map λz=>pD (cI z))]) (n:=2) (is:=[0]) (g:=cC4 K 2 (p4 (F4 0) (p4 (F4 1) bN2))) (te:=o6 (spV K dK3) [] E0 (E8 (F6 2) (E8 (F6 1) (E8 (F6 0) R3)))) (fB (TT.trn Y)) (T7 (EF.e' (M4 (pre:=dM9) (X:=E0) (A3 v0 (A3 v1 (A3 v2 A7))) ⟨m,Y,tr,x,y,sh,J,M,rfl,rfl⟩))) (by rw[Aa3];have:=congrArg List.length U;simp at this;unfold sizeLine;lia) (λd hd=>by
  obtain⟨z,hz,rfl⟩:=Aa8.mp hd;exact⟨_,aD5 (G4 B6 (G4 B6 Z4)),Z9,C6 (A3 (A5 rfl) (A3 (A5 rfl) (A3 (A5 rfl) A7))) ⟨m,Y,tr,z.2,z.1,J,G.sym (D z hz),rfl,rfl⟩⟩)
 rw[dQ6]at cm;refine B1 (E1 cm ?_ (show 3<4 by decide))
 have ec:=aS7 (K:=K) (ρ:=[vD Y,.val (tN (TT.lnd (TT.trn Y) x y)),.val (.list (sh.map λz=>pD (cI z))),.own (((TT.fin (TT.trn Y) sh x y).crs.map λz=>TT.lnd (TT.trn Y) z.2 z.1).map tN)]) (EF.e' (E6 (ds:=[TT.lnd (TT.trn Y) x y].map tN) (A3 v1 A7))) (G9 (i:=3) rfl) (cK5 _) (cK5 _) (by simp  [Aa3,List.length_singleton];have:=congrArg List.length U;simp at this;unfold sizeLine;lia)
 rw[<- Ad2,List.singleton_append,<- U,cY6 (TT.fin (TT.trn Y) sh x y).rch]at ec;refine aE6 (p7 (A3 (EF.e' ec) A7) (λt ht=>?_) (by rw[Aa3];lia) (C8 _) (Q0 _)) rfl
 obtain⟨l,hl,rfl⟩:=Aa8.mp ht;rw[U]at hl
 have:∃p R,l=TT.lnd (TT.trn Y) p R:=by
  rcases Aa1.mp hl with e | hl
  .exact⟨x,y,e⟩
  .obtain⟨z,_,rfl⟩:=Aa8.mp hl;exact⟨_,_,rfl⟩
 obtain⟨p,R,rfl⟩:=this;unfold TT.lnd;rcases TT.S3 p R (TT.th (TT.trn Y) p R) with e | e | e <;> rw[e] <;> simp[cL]
end
end K37
namespace TT
open Classical
section
theorem Bt.rs (B:Bt F G m f d t):Rs (trn d):=⟨B.good.nd,B.good.self,B.good.tri,λp q h=>B.good.sym h,B.h1⟩
end
structure MI (r:Nat->AD)(sh:Nat->Nat->Prop)(a b:Nat)(met:AA)(D:List (Nat×Nat)):Prop where
 nd:met.Nodup
 hd:lnd r a b∈met
 rc:∀l∈met,∃p q,q∈r p/\l=lnd r p q/\Rc r sh a b p q
 cl:∀x∈D,x.2∈r x.1/\(¬sh x.1 x.2->lnd r x.2 x.1∈met)
section
theorem MI.ini (h:b∈r a):MI r sh a b [lnd r a b] []:=⟨SS,SS,λl e=>by simp at e;exact⟨a,b,h,e,.base⟩,λx j=>by cases j⟩
theorem MI.add (G:Good n r)(M:MI r sh a b met D)(hl:l∈met)(Y:x∈wys l)(J:¬sh x.1 x.2)(U:lnd r x.2 x.1∉met):MI r sh a b (met++[lnd r x.2 x.1]) (D++[x]):=by
 obtain⟨p,q,j,rfl,m⟩:=M.rc l hl;obtain⟨s,F⟩:=G.wys_back j Y;have c:Rc r sh a b x.1 x.2:=by
  have X:=Rc.rot m (G.th j)
  have Q:=Rc.rot X (G.tri _ _ _ (G.th j))
  rcases (G.wys_lnd j).mp Y with rfl | rfl | rfl
  .exact m
  .exact X
  .exact Q
 refine⟨?_,Ak _ M.hd,λl hl=>?_,λy hy=>?_⟩
 .rw[Aa4];exact⟨M.nd,SS,λy hy z R e=>U (by rw[Ad8.mp R]at e;rw[<- e];exact hy)⟩
 .rcases Aa0.mp hl with hl | hl
  .exact M.rc l hl
  .exact⟨x.2,x.1,G.sym s,Ad8.mp hl,.cross c s J⟩
 .rcases Aa0.mp hy with hy | hy
  .exact⟨(M.cl y hy).1,λh=>Ak _ ((M.cl y hy).2 h)⟩
  .rw[Ad8.mp hy];exact⟨s,λ_=>by simp⟩
theorem MI.skip (G:Good n r)(M:MI r sh a b met D)(e:l∈met)(s:x∈wys l)(h:sh x.1 x.2\/lnd r x.2 x.1∈met):MI r sh a b met (D++[x]):=by
 obtain⟨p,q,j,rfl,Y⟩:=M.rc l e;obtain⟨m,X⟩:=G.wys_back j s;refine⟨M.nd,M.hd,M.rc,λy hy=>?_⟩
 rcases Aa0.mp hy with hy | hy
 .exact M.cl y hy
 .rw[Ad8.mp hy];exact⟨m,λc=>h.elim (λz=>absurd z c) id⟩
theorem MI.sub (G:Good n r)(M:MI r sh a b met D):met.length+4<=2*n:=by
 have h:=aT7 M.nd λl j=>by
  obtain⟨p,q,c,e,_⟩:=M.rc l j;exact G.rds_mem.mpr ⟨p,q,c,e⟩
 have:=G.rds_len
 lia
theorem MI.fin (G:Good n r)(M:MI r sh a b met D)(h:b∈r a)(s:∀l∈met,∀x∈wys l,x∈D):l∈met↔∃p q,q∈r p/\l=lnd r p q/\Rc r sh a b p q:=by
 constructor
 .exact M.rc l
 .rintro⟨p,q,hq,rfl,j⟩;have c:∀{p q},Rc r sh a b p q->q∈r p/\lnd r p q∈met:=λj=>by
   induction j with
   | base=>exact⟨h,M.hd⟩
   | @rot q x y _ ha ih=>
    have e:=G.th_un ha
    exact⟨(B2 (G.tri _ _ _ ha)).1,by rw[e,<- G.lnd_rot ih.1];exact ih.2⟩
   | @cross p q _ hq hs ih=>
    exact⟨G.sym hq,(M.cl (p,q) (s _ ih.2 (p,q) ((G.wys_lnd hq).mpr (.inl rfl)))).2 hs⟩
  exact(c j).2
end
end TT
namespace TT
section
variable {n:Nat}{r:Nat->AD}{sh:Nat->Nat->Prop}{a b c x y p q u v:Nat}
theorem Rc.trans (h1:Rc r sh x y p q)(j:Rc r sh p q u v):Rc r sh x y u v:=by
 induction j with
 | base=>exact h1
 | rot _ s e=>exact .rot e s
 | cross _ m Y e=>exact .cross e m Y
theorem Rc.back (G:Good n r)(sym:∀p q,sh p q->sh q p)(h:Rc r sh x y p q):Rc r sh p q x y:=by
 induction h with
 | base=>exact .base
 | @rot q x' y' _ ha ih=>
  have e:=G.tri _ _ _ ha
  have j:=G.tri _ _ _ e
  exact Rc.trans (.rot (.rot .base e) j) ih
 | @cross p q _ hq hs ih=>exact Rc.trans (.cross .base (G.sym hq) λz=>hs (sym _ _ z)) ih
theorem bR6 (j:a≠b)(m:b≠c)(Y:a≠c):adj [a,b,c] x y↔(x=a/\y=b)\/(x=b/\y=c)\/(x=c/\y=a):=by
 rw[adj_iff];constructor
 .rintro (⟨p,s,e⟩ | ⟨p,e,h⟩)
  .match p,e with
   | [],e=>simp at e;simp[*]
   | [_],e=>simp at e;simp[*]
   | [_,_],e=>simp at e
   | _::_::_::p,e=>simp at e
  .match p,e with
   | [],e=>simp at e
   | [_],e=>simp at e
   | [_,_],e=>simp at e h;lia
   | _::_::_::p,e=>simp at e
 .rintro (⟨rfl,rfl⟩ | ⟨rfl,rfl⟩ | ⟨rfl,rfl⟩)
  .exact .inl ⟨[],[c],rfl⟩
  .exact .inl ⟨[a],[],rfl⟩
  .exact .inr ⟨[y,b],rfl,rfl⟩
end
end TT
namespace L2
open PySem PySem.Spec PyProof.Rows
def cU9 (K:Frag):R2:=λx y H Q=>∃a b ks kv v,x=.ref a/\y=.ref b/\SqT K H b (ks.map V.int)/\H a=some (dicO a kv)/\bE8 K H kv/\atK kv ks=some v/\Q v H
section
theorem bZ7 (K:Frag)(D:Room k X.A)(h:X.K=K:=by rfl):IxR X (cU9 K):=by
 subst h;intro ea eb m s σ H x y v u Q I P ry ⟨a,b,j,kv,z,Y,U,M,J,R,B,q⟩ F;subst Y U;cases (show v=Value.ref a from P)
 cases (show u=Value.ref b from ry)
 obtain⟨xs,r,zz,hd,c⟩:=bO1 I J R;have e:=KvR.at_ r j;rw[B]at e;cases hp:atKey xs j with
 | none=>rw[hp]at e;exact e.elim
 | some p=>
  rw[hp]at e;have fin:EP X m σ Q p.2 {s with toks:=s.toks+(tupleKind (intKind X.prog X.w)).draws j}:=⟨z,H,I.tok _,e,q⟩
  exact subscriptTail_builtinR c.typeIs slot_dict_getitem.lookup (wpAny_getItem_heap (tupleKind_room_in1 (by have:=D.un;lia)) (aL9 I M) c hp ⟨rfl,fin⟩) F
end
end L2
namespace LV
open PySem L2
section
theorem cE7:∀(u v:AF),u.map PyData.int=v.map PyData.int->u=v
 | [],[],_=>rfl
 | [],_::_,h=>by simp at h
 | _::_,[],h=>by simp at h
 | a::u,b::v,h=>by simp at h;rw[h.1,cE7 u v h.2]
theorem bW3:∀{a b:List (AF×PyData)},V9 a=V9 b->a=b
 | [],[],_=>rfl
 | [],_::_,h=>by simp[V9]at h
 | _::_,[],h=>by simp[V9]at h
 | x::a,y::b,h=>by
  simp  [V9,Ac7,Bv,Ck,PyData.tuple.injEq]at h
  rw[bW3 h.2,Prod.ext (cE7 _ _ h.1.1) h.1.2]
theorem cE5 (r:Rep K H v (.dict (V9 kvs))):∃a kv,v=.ref a/\H a=some (dicO a kv)/\KvF K H kv kvs:=by
 generalize h:V9 kvs=ds at r;cases r with
 | exc e=>cases kvs <;> simp[V9]at h
 | ptr=>cases kvs <;> simp[V9]at h
 | adr=>cases kvs <;> simp[V9]at h
 | dic e k z=>exact⟨_,_,rfl,e,by rw[bW3 (h.trans z)];exact k⟩
theorem KvF.keyR (r:KvF K H kv kvs):bE8 K H kv:=by
 induction r with
 | nil=>intro z hz;cases hz
 | cons a _ e=>
  intro z hz;rcases Aa1.mp hz with rfl | hz
  .exact a.2.1
  .exact e z hz
theorem KvF.keys (r:KvF K H kv kvs):kv.map (·.1)=kvs.map (·.1):=by
 induction r with
 | nil=>rfl
 | cons a _ e=>rw[Ac7,Ac7,a.1,e]
def atD (kvs:List (AF×PyData))(ks:AF):Option PyData:=(kvs.find? λx=>decide (x.1=ks)).map (·.2)
theorem KvF.at_ (r:KvF K H kv kvs)(h:atD kvs ks=some d):∃v,atK kv ks=some v/\cO1 K H v d:=by
 induction r with
 | nil=>simp[atD]at h
 | @cons p q ps qs a _ ih=>
  unfold atD at h;rw[Bw]at h;unfold atK;rw[Bw,a.1];by_cases e:q.1=ks
  .simp only[e,decide_true,Option.map_some,Option.some.injEq]at h ⊢;exact⟨_,rfl,by rw[<- h];exact a.2.2⟩
  .simp only[e,decide_false]at h ⊢;exact ih h
theorem cR8:∀{d:PyData},cO1 K H v d->Rep K H v d
 | .none,r=>by cases r;exact .non
 | .bool _,r=>by cases r;exact .bl _
 | .int _,r=>by cases r;exact .int _
 | .str _,r=>by cases r;exact .str _
 | .tuple _,⟨a,l,e,j,s⟩=>by rw[e,j];exact .tup s (V0 l)
 | .list _,r=>r.elim
 | .dict _,r=>r.elim
theorem bL0 (h:kvs.all (λx=>aA8 x.2)=true):dD kvs=.dict (V9 kvs):=Ac h
theorem bP8 (c:E K false ta ρ (.dict (V9 kvs)))(Y:E K false tb ρ (.tuple (ks.map PyData.int)))(h:atD kvs ks=some d)(hi:imm d=true:=by rfl):E K m (tOp (cU9 K) ta tb) ρ d:=
 E.bor (E.imm (cD4 false false c Y λS H x y Q _ X U q=>by
  obtain⟨a,kv,rfl,e,k⟩:=cE5 X;cases U with
  | @tup b xs _ s r=>
   rw[Reps.ints r]at s;obtain⟨v,h1,j⟩:=k.at_ h;exact⟨a,b,ks,kv,v,rfl,rfl,s,e,k.keyR,h1,q v H (L2.Same.rf _) (cR8 j)⟩) hi)
end
end LV
namespace PySem
open PySem.Spec PyProof.Rows PySem.W
def RawD (h:Heap)(d:Addr)(es:Array DictEntry)(ep:Nat):Prop:=∃o,h.get? d=some o/\o.cls=.type "dict" /\ o.data=.dict es ep
section
variable {prog:Program}{w:World}{A:Around}{E:Ed}{s:Shared}{it d v:Addr}{i ep:Nat}{es:Array DictEntry}
theorem RawD.ty (x:RawD s.heap d es ep):s.TypeIs (.ref d) "dict" := x.imp λ_ z=>⟨z.1,z.2.1⟩
theorem RawD.kp (x:RawD h d es ep)(e:∀o,h.get? d=some o->h'.get? d=some o):RawD h' d es ep:=x.imp λo z=>⟨e o z.1,z.2⟩
theorem RawD.lt (x:RawD h d es ep):d<h.objs.size:=let ⟨_,z,_⟩:=x;Ab3 z
end
end PySem
namespace L2
open PySem PySem.Spec PyProof.Rows PySem.W
section
theorem dT2 (I:Inv X aA σ H s)(e:H a=some (dicO a kv)):∃(xs:List (AF×Addr×Value)) (es:Array DictEntry) (ep:Nat),KvR kv xs/\kv.length<=sizeLine/\(a==sysModules)=false/\RawD s.heap a es ep/\es.toList=xs.map dEnt/\∃o,s.heap.get? a=some o/\o.dict=none:=by
 obtain⟨⟨xs,r,z,Y,o,es,ep,h1,j,c,m,U⟩,_⟩:=(show ObjOk X.prog X.w H s.heap a (dicO a kv) from I.hok a _ e)
 exact⟨xs,es,ep,r,z,Y,⟨o,h1,j.1,c⟩,m,o,h1,j.2.1⟩
theorem cT7 {es:Array DictEntry}(r:KvR kv xs)(h:es.toList=xs.map dEnt):es.size=kv.length:=by
 rw[<- Array.length_toList,h,Aa3,<- Paired.length r]
end
end L2
namespace PySem
open PySem.Spec PyProof.Rows
end PySem
namespace L2
open PySem PySem.Spec PyProof.Rows PySem.W
end L2
namespace LV
open PySem L2
end LV
namespace PySem
open PySem.Spec PyProof.Rows PySem.W
section
variable {prog:Program}{w:World}{A:Around}{E:Ed}{s:Shared}{it d v:Addr}{i ep:Nat}{es:Array DictEntry}
theorem cN2 (lo:(d==sysModules)=false)(m:RawD s.heap d es ep)
  (q:Q (.ref s.heap.objs.size) {s with heap:=s.heap.push {cls:=.type "dict_keyiterator",data:=.fields #[.ref d,.int 0 0,.int es.size 0,.int ep 0]}}):wpAny (model prog w) A (pyIter (.ref d)) Q E s:=by
 obtain⟨b,j,Y,c⟩:=id m;have e:=m.ty;refine wpAny_pyIter_slot e F.slot_dict_iter (Cj F.slot_dict_iter e F.entry_dict_iter ?_ (F.args_dict_iter_1 _));refine Aa ?_;refine Aa (wpAny_notOrdered_dict e ?_);refine Ae ?_;show wpAny _ _ (Builtin.Dict.showsAll d >>= _) _ _ s;unfold Builtin.Dict.showsAll;rw[Ab (by rw[lo];exact Ao)];refine Aa (Ae ?_)
 exact Aa (wpAny_dictEntries j c (Aa (wpAny_dictEpoch j c (Aa (Cb (Ae ⟨_,rfl, "dict_keyiterator",_,⟨_,Ac3 _ rfl,rfl⟩,F.slot_dict_keyiterator_next.lookup,q⟩))))))
theorem cM4 (e:s.heap.IsKeyIter it d i es.size ep)(U:RawD s.heap d es ep)(hi:i<es.size)
  (q:∀h',h'.IsKeyIter it d (i+1) es.size ep->Heap.SameBut it s.heap h'->Q (some es[i].key) {s with heap:=h'}):wpAny (model prog w) A (pyNext (.ref it)) Q E s:=by
 obtain⟨a,c,X,j⟩:=id e;obtain⟨b,m,J,Y⟩:=id U;refine Aa (wpAny_attempt (Cn e.typeIs F.slot_dict_keyiterator_next (Cj F.slot_dict_keyiterator_next e.typeIs F.entry_dict_keyiterator_next ?_ (F.args_dict_keyiterator_next_1 _))));refine Aa (Ae ?_);refine Aa ?_;refine Aa ?_;refine Aa (wpAny_typeNameOfWhole_keyiter e.typeIs (Ae ?_));refine Aa (wpAny_fieldsOf c j ?_);refine Aa (Ae ?_);refine Aa (wpAny_dictEntries m Y ?_);rw[Ab SS]
 refine Aa (Ae ?_);refine Aa (wpAny_dictEpoch m Y ?_);rw[Ab SS];refine Ae ?_
 simp  [show ¬((i:Int)<0) by simp,if_false,Ac8,Bi hi]
 refine Aa ?_;refine Aa (wpAny_typeNameOfWhole_keyiter e.typeIs (Ae ?_));refine Aa (wpAny_isOneOf_keyiter e.typeIs ?_);show wpAny _ _ (setField (.ref it) 1 (rawInt (i+1)) >>= _) _ _ s;refine Aa (wpAny_setField c j SS ?_)
 have z:(s.heap.update it (Obj.mapFields (·.setIfInBounds 1 (rawInt (i+1))))).IsKeyIter it d (i+1) es.size ep:=⟨_,Dd _ c (Obj.isFreed_of_fields (Obj.data_mapFields j _)),(Obj.cls_mapFields ..).trans X,by rw[Obj.data_mapFields j];simp[rawInt]⟩
 refine Aa (Cg (Aa (wpAny_isOneOf_keyiter z.typeIs ?_)));exact Ae (Ae ⟨_,rfl,Ae (q _ z (Dy ..))⟩)
theorem dA1 (U:A.handled=none)(e:s.heap.IsKeyIter it d es.size es.size ep)(J:RawD s.heap d es ep)
  (q:∀h',Heap.ExtBut it s.heap h'->Q none {s with heap:=h'}):wpAny (model prog w) A (pyNext (.ref it)) Q E s:=by
 obtain⟨a,j,M,c⟩:=id e;obtain⟨b,Y,R,X⟩:=id J;refine Aa (wpAny_attempt (Cn e.typeIs F.slot_dict_keyiterator_next (Cj F.slot_dict_keyiterator_next e.typeIs F.entry_dict_keyiterator_next ?_ (F.args_dict_keyiterator_next_1 _))));refine Aa (Ae ?_);refine Aa ?_;refine Aa ?_;refine Aa (wpAny_typeNameOfWhole_keyiter e.typeIs (Ae ?_));refine Aa (wpAny_fieldsOf j c ?_);refine Aa (Ae ?_);refine Aa (wpAny_dictEntries Y X ?_);rw[Ab SS]
 refine Aa (Ae ?_);refine Aa (wpAny_dictEpoch Y X ?_);rw[Ab SS];refine Ae ?_
 simp  [show ¬((es.size:Int)<0) by simp,if_false,Ac8,Dn (Aa7 es.size)]
 refine Aa ?_;refine Aa (wpAny_typeNameOfWhole_keyiter e.typeIs (Ae ?_));show wpAny _ _ (setField (.ref it) 0 .none >>= _) _ _ s;refine Aa (wpAny_setField j c SS ?_)
 refine Aa ?_;refine Aa (m:=firstArgMember _ _) (wpAny_of_eq (by first | rfl | (rfl)) ?_)
 refine Cb ?_ (by size_fits);refine Aa (wpAny_handled ?_);rw[show A.in1.handled=none from U]
 refine Aa (Ae (wpAny_throw ?_));refine Aa (wpAny_isInstance ⟨_,Ac3 _ rfl,rfl⟩ isSubtype_stop ?_);exact Ae (q _ (((Dy ..).extBut.push _).push _))
theorem cO2 (R:A.handled=none)(I d:Addr)(X:d≠I)(es:Array DictEntry)(ep:Nat):Walks prog w A I [I,d] [I] es.size (λi v=>∃e,es[i]? = some e/\v=e.key) (λi h=>h.IsKeyIter I d i es.size ep/\RawD h d es ep) where
 sub:=λb c=>by simp at c;simp[c]
 frame:=λ_ _ _ j U=>⟨j.1.at λo e=>U I SS o e,j.2.kp λo e=>U d SS o e⟩
 item:=λi s Q E hi j m=>cM4 j.1 j.2 hi λY z J=>m _ Y s.toks ⟨es[i],by simp[hi],rfl⟩ ⟨z,j.2.kp λo e=>J.extBut d o X e⟩ λb o c e=>J.extBut b o (λh=>c (by simp[h])) e
 done:=λs Q E j m=>dA1 R j.1 j.2 λY M=>m Y s.toks λb o c e=>M b o (λh=>c (by simp[h])) e
 self:=λ_ _ _ _ j m=>wpAny_pyIter_keyiter j.1 m
theorem cS9 (lo:(d==sysModules)=false):KdlSrc prog w "dict" d d es.size (λi x=>∃e,es[i]? = some e/\x=e.key) (λh=>RawD h d es ep) where
 type:=λ_ z=>z.ty
 there:=λ_ z=>⟨z.lt,z.lt⟩
 keep:=λ_ _ z m=>z.kp λo e=>m d (.inr rfl) o e
 notList:=by decide
 notTuple:=by decide
 hint:=λ_ _ _ _ z j=>kdl_hint_dict z.ty j
 iter:=λ_ _ c z=>⟨_,_,(λ_ _ j=>cN2 lo z j),cO2 c _ d (Ab9 z.lt) es ep,⟨⟨_,Ac3 _ rfl,rfl,rfl⟩,z.kp λo e=>Aa6 _ e⟩⟩
end
end PySem
namespace L2
open PySem PySem.Spec PyProof.Rows PySem.W
section
theorem KvR.refs (r:KvR kv xs):Vals (kv.map λx=>V.ref x.2.1) (xs.map λx=>Value.ref x.2.1):=by
 induction r with
 | nil=>exact .nil
 | cons a _ e=>exact .cons (show Value.ref _=Value.ref _ by rw[a.2.1]) e
def dM6 (K:Frag)(tk tv:TE):TE:=λσ H Q=>∀d,H d=none->tk σ (upd H d (dicO d [])) λx H1=>tv σ H1 λv H2=>∃b ks,x=.ref b/\SqT K H2 b (ks.map V.int)/\H2 d=some (dicO d [])/\Q (.ref d) (upd H2 d (dicO d [(ks,b,v)]))
theorem dI0 (K:Frag)(hr:Room k X.A)(hk:PE X ke tk)(hv:PE X ve tv)(h:X.K=K:=by rfl):PE X (.Dict [some ke] [ve] pos) (dM6 K tk tv):=by
 subst h;refine⟨?_⟩;intro J s σ H Q I h;refine wpAny_Dict_any rfl rfl SS SS ?_
 have D:=I.laid (t':=s.toks) (λ_ _ q=>Aa6 {cls:=.type "dict",data:=.dict #[]} q) (Aa7 _)
  (aW1 .nil (Br _) (beq_eq_false_iff_ne.mpr (Ne.symm (Ab9 I.big'))) (Ac3 _ rfl) ⟨rfl,rfl,rfl⟩ rfl rfl List.nodup_nil)
 have h0:=h s.heap.objs.size (I.hok.fresh (Aa7 _))
 refine Aa (thn (hk J _ σ _ _ D h0) λkv s1 pz=>?_)
 obtain⟨x,H1,F,rx,q1⟩:=pz;refine Aa (Cg (Aa (thn (hv J s1 σ H1 _ F q1) λvv s2 pz=>?_)))
 obtain⟨v,H2,e,rv,b,ks,P,m,M,q⟩:=pz;refine Aa (wpAny_standAt (Ae ?_));refine Aa (Cg ?_);refine Ae (Ae ?_);subst P;obtain rfl:kv=Value.ref b:=rx;unfold storeAll;rw[List.forIn_cons];obtain⟨xs,U,z,hd,B⟩:=bO1 e M (λz hz=>by cases hz)
 cases U
 refine Aa (Aa (wpAny_dictSet_heap (show(tupleKind (intKind X.prog X.w)).room X.A from by have:=hr.un;show X.A.units<cLine;lia) (aL9 e m) B (λh' j Y=>?_) (Br _)))
 refine Ae ?_;refine Ae ⟨.ref s.heap.objs.size,_,?_,rfl,q⟩;obtain⟨o,es,ep,R,h2,h3,h4,_,h5⟩:=j;exact e.write (by rw[M];exact True.intro) (.inl rfl) (λc q m z=>(Y.2 c m).trans z) ⟨o,R⟩ (aW1 (.cons ⟨rfl,rfl,rv⟩ .nil) (by show 1<=16777216;decide) hd R h2 h3 h4 h5)
end
end L2
namespace LV
open PySem L2
section
theorem cV9 (r:KvF K H kv kvs):Reps K H (kv.map λx=>V.ref x.2.1) (kvs.map λx=>PyData.tuple (x.1.map PyData.int)):=by
 induction r with
 | nil=>exact .nil
 | cons a _ e=>exact .cons (.tup a.2.1 (by rw[a.1];exact V0 _)) e
end
section
theorem dA5 (D:E K true tk ρ (.tuple (ks.map PyData.int)))(hv:E K true tv ρ d)(im:imm d=true):EFT K (dM6 K tk tv) ρ (.dic [(ks,d)]):=λS B σ H o I Q q p hp=>by
 have U:Same H (upd H p (dicO p [])):=D9 hp
 refine D S B σ _ o (I.grow U) _ λx H1 J rx=>hv S B σ H1 o ((I.grow U).grow J) _ λv m M rv=>?_
 cases rx with
 | @tup b xs _ sq r=>
  have F:=Reps.ints r
  have s:=M _ _ (J _ _ C7)
  have X:SqT K m b (ks.map V.int):=by rw[<- F];exact F7 M (F7 O1 sq)
  refine⟨b,ks,rfl,X,s,?_⟩;have R:Same H (upd m p (dicO p [(ks,b,v)])):=λc y z=>by
   have hc:c≠p:=λe=>by rw[e,hp]at z;cases z
   rw[C1 hc];exact M _ _ (J _ _ (U _ _ z))
  have j:∀(a:Addr) (xs:List V),Rd m a (.tup xs)->Rd (hid (λb=>E3 ρ o S b\/b∈[p]) (upd m p (dicO p [(ks,b,v)]))) a (.tup xs):=λa ys z=>by
   have Y:a≠p:=λe=>by
    subst e;rcases z with z | ⟨ob,z⟩
    .rw[s]at z;cases z
    .rw[s]at z;cases z
   have z2:Rd (upd m p (dicO p [(ks,b,v)])) a (.tup ys):=by
    rcases z with z | ⟨ob,z⟩
    .exact .inl (by rw[C1 Y];exact z)
    .exact .inr ⟨ob,by rw[C1 Y];exact z⟩
   refine w6 (λc hc=>?_) z2
   rcases hc with hc | hc
   .obtain⟨u,P⟩:=I.lists c hc;exact⟨u,R _ _ P⟩
   .rw[Ad8.mp hc];exact⟨.x p [(ks,b,v)],C7⟩
  exact q (.ref p) [p] _ R (λc hc=>by rw[Ad8.mp hc];exact hp) SS (.dic C7 rfl (.cons (.tup (X.imp (j _ _) id) (V0 ks)) .nil) (.cons (bL9 j d im (bD4 aL1 d rv)) .nil))
theorem dR8 (J:EX K t ρ j d ρ1)(X:G K true g d ρ1 ρ')(U:R.nx ρ'):W K (aT8 t g) ρ R:=λS B D σ H o I s=>
 J S B σ H o I _ λv c m Y _ _ _ _ r=>X.2 S B σ c m Y v r _ λM e=>s.nx _ M c m e U
end
end LV
set_option maxHeartbeats 1000000
namespace K37
open PySem L2 LV PyProof.Rows
theorem aQ2:B8 ["drawing", "ring", "ways"] ["drawing", "ring"] (B3 aF0):={}
theorem sc_inside:B8 ["drawing", "ring", "outside"] ["drawing", "ring"] (B3 aZ1):={}
def Tri (dr:AA)(x y z:Nat):Prop:=y∈TT.trn dr x/\z∈TT.trn dr y/\x∈TT.trn dr z
def rgW (x y z:Nat):List (Nat×Nat):=[(z,x),(x,y),(y,z)]
def dX3 (ds es:AG):Prop:=∃(m:Nat) (dr tr:AA) (x y z:Nat),Dw m dr tr/\Tri dr x y z/\ds=[tD dr,tN [x,y,z]]/\es=(rgW x y z).map λz=>pD (cI z)
def X9 (m:Nat)(dr:AA):AC:=(R4 ((TT.rds (TT.trn dr) (m+3)).map cL)).filter λl=>decide (l≠[0,2,1])
def bT6 (dr:AA)(x y z:Nat):AC:=(TT.fin (TT.trn dr) (rgW x y z) 0 2).rch.map cL
def cB2 (m:Nat)(dr:AA)(x y z:Nat):AC:=(X9 m dr).filter λt => !decide (t∈bT6 dr x y z)
def dY7 (ds es:AG):Prop:=∃(m:Nat) (dr tr:AA) (x y z:Nat),Dw m dr tr/\Tri dr x y z/\ds=[tD dr,tN [x,y,z]]/\es=(cB2 m dr x y z).map tI
def fTd (dr:AA):PyData->Option PyData
 | .tuple [.int p,.int q]=>some (.bool (td dr p q))
 | _=>none
def dD1 (L:AC)(d:PyData):Option PyData:=if(L.map tI).any (λz=>PyData.eqv z d) then none else some d
theorem cV6 (l:AF)(L:AC):(L.map tI).any (λz=>PyData.eqv z (tI l))=decide (l∈L):=by
 rw[List.any_map,By,List.any_eq_true,Ai];constructor
 .rintro⟨x,hx,h⟩;simp  [Function.comp,aC4,Ai]at h;rw[<- h];exact hx
 .intro h;exact⟨l,h,by simp[Function.comp,aC4]⟩
theorem cZ4 (O:AC)(L:AC):(L.map tI).filterMap (dD1 O)=(L.filter λt => !decide (t∈O)).map tI:=by
 induction L with
 | nil=>rfl
 | cons l L j=>
  have e:dD1 O (tI l)=if l∈O then none else some (tI l):=by
   unfold dD1;rw[cV6];by_cases h:l∈O <;> simp[h]
  rw[Ac7,Be,e,List.filter_cons];by_cases h:l∈O
  .rw[Ac h,Ab (by simp[h])];exact j
  .rw[Ab h,Ac (by simp[h]),Ac7]
   rw[j]
theorem cK0 (L:AC):Fit (.list (L.map tI)):=(aC8 λd e=>by obtain⟨x,_,rfl⟩:=Aa8.mp e;exact X0 _).fit
theorem Dw.td (e:Dw m dr tr)(j:q∈TT.trn dr p):K37.td dr (p:Int) (q:Int)=true:=by
 have c:=e.lt j
 unfold K37.td
 have:=e.len
 simp only[As,Ai,Ac8];exact⟨⟨SS,LL⟩,Aa8.mpr ⟨q,j,rfl⟩⟩
theorem dH3 (e:Dw m dr tr):(X9 m dr).length<=20:=by
 have h:=e.good.rds_len
 have j:=e.m7
 unfold X9;have h1:=List.length_filter_le (λl:AF=>decide (l≠[0,2,1])) (R4 ((TT.rds (TT.trn dr) (m+3)).map cL))
 rw[(C8 _).length_eq,Aa3]at h1
 lia
theorem aY0 (e:Dw m dr tr):TT.lnd (TT.trn dr) 0 2=[0,2,1]:=by
 have:=e.good.th_un e.good.outs.1
 unfold TT.lnd;rw[<- this];rfl
section
variable {P:Program}{w:World}{K:Frag}{mg:Str->Option Value}{base:Heap}{a:Ad}
theorem dL1 (T:Tx K mg a):J6 P w K mg base CX0 2 a.aV0 a.aU9 ["drawing", "ring"] (spL K dX3):=by
 have e := @aW0 P w K mg base a T
 have j := @bP0 P w K mg base a T
 refine T.aC6.F.ok aQ2 (bB0 (by rintro ds d ⟨_,_,_,_,_,_,_,_,rfl,_⟩;rfl)) (λM A X s H vs Q E J h=>?_)
 obtain⟨ds,S,es,D,r,⟨m,c,tr,x,y,z,Y,t3,rfl,rfl⟩,q⟩:=h;refine⟨_,(A6 (psS 2 aQ2 (pcl e J T.P6 (A0 (pv 1) A4)))
   (A6 (N0 (W8 (P3 (B4 (aG2 K rfl) RR T.bJ1 boot_all (A0 (K2 (T:=["p", "q"]) (is:=[0]) rfl (.of rfl) (O2 (pv 2)) (dR2 DD DD) λ_ _ _ _=>⟨(i9 (n:=2) rfl (E7 (E2 (i:=0) (by decide +kernel:(["p", "q", "drawing"]:AJ).Nodup) rfl (Or.inl rfl)) (E7 (E2 (i:=1) (by decide +kernel:(["p", "q", "drawing"]:AJ).Nodup) rfl (Or.inl rfl)) T3))),K9,(pcl j J T.bO0 (A0 (pv 2) (A0 (pv 0) (A0 (pv 1) A4))))⟩) A4)))) aS9 F0)
   (A9 (C0 (pv 2))))),Y9 D r ?_ q⟩
 refine B1 (E1 (M4 (A3 (A5 rfl) A7) ⟨x,y,z,rfl,rfl⟩) ?_ (show 2<3 by decide))
 have U:=F8 (ρ:=[vD c,.val (tN [x,y,z]),.own ((rgW x y z).map λz=>pD (cI z))]) (n:=2) (is:=[0]) (g:=cC4 K 2 (p4 (F4 0) (p4 (F4 1) bN2))) (te:=o6 (spV K bO4) [] E0 (E8 (F6 2) (E8 (F6 0) (E8 (F6 1) R3)))) (fTd c) (T7 (G9 (i:=2) rfl)) (show 3<sizeLine by decide) (λd B=>by
   obtain⟨u,hu,rfl⟩:=Aa8.mp B;exact⟨_,aD5 (G4 B6 (G4 B6 Z4)),Z9,C6 (A3 (A5 rfl) (A3 (LV.E.imm (aN9 rfl)) (A3 (LV.E.imm (aN9 rfl)) A7))) ⟨c,(u.1),(u.2),rfl,rfl⟩⟩)
 have R:((rgW x y z).map λz=>pD (cI z)).filterMap (fTd c)=[true,true,true].map PyData.bool:=by
  show [PyData.bool (td c z x),PyData.bool (td c x y),PyData.bool (td c y z)]=_
  rw[Y.td t3.2.2,Y.td t3.1,Y.td t3.2.1];rfl
 rw[R]at U;refine B1 (X2 (aB1 (t_b (cJ5 (A3 (EF.e' U) A7)))) (λh=>by cases h) (λh=>G6 ?_))
 exact bQ3 rfl rfl
theorem eB9 (T:Tx K mg a):J6 P w K mg base CX0 6 a.bV2 a.bR1 ["drawing", "ring"] (spL K dY7):=by
 have c := @dH7 P w K mg base a T
 have Y := @dL1 P w K mg base a T
 have j := @cY9 P w K mg base a T
 refine T.bV9.F.ok sc_inside (bB0 (by rintro ds d ⟨_,_,_,_,_,_,_,_,rfl,_⟩;rfl)) (λcdv A D s H vs Q E M h=>?_)
 obtain⟨ds,S,es,hS,r,⟨m,U,tr,x,y,z,J,t3,rfl,rfl⟩,q⟩:=h;obtain⟨ad,gF,sF⟩:=T.X8;refine⟨_,(A6 (aC3 (i:=2) sc_inside.nd rfl (Or.inr rfl) (pcl c M T.aN3 (A0 (pv 0) (A0 (aW3 (v:=.ref ad) rfl gF rfl) (A0 (pcl Y M T.aC6 (A0 (pv 0) (A0 (pv 1) A4))) A4)))))
   (A9 (C0 (K2 (T:=["land"]) (is:=[2]) rfl (.of rfl) (O2 (pcl j M T.aH9 (A0 (pv 0) A4))) (G3 DD) λ_ _ _ _=>⟨(E2 (i:=0) (by decide +kernel:(["land", "outside"]:AJ).Nodup) rfl (Or.inl rfl)),(U1 (C3 (S5 K M) (pv 0) (pv 1) rfl)),(pv 0)⟩)))),Y9 hS r ?_ q⟩
 have R:=(TT.B2 J.good.outs.1).1
 have hO:((R4 (bT6 U x y z)).map tI)=(R4 ((TT.fin (TT.trn U) (rgW x y z) 0 2).rch.map cL)).map tI:=rfl
 refine B1 (E1 (M4 (A3 (A5 rfl) (A3 (bR2 λH=>.tup (sF H) (.cons (.int _) (.cons (.int _) (.cons (.int _) .nil)))) (A3 (EF.e' (M4 (A3 (A5 rfl) (A3 (A5 rfl) A7)) ⟨m,U,tr,x,y,z,J,t3,rfl,rfl⟩)) A7))) ⟨m,U,tr,0,2,rgW x y z,J,R,by rw[aY0 J];rfl,rfl⟩) ?_ (show 2<3 by decide))
 have hl:=dH3 J
 have B:=F8 (K:=K) (m:=true) (g:=F4 0) (te:=F6 0) (dD1 (R4 (bT6 U x y z))) (T7 (ds:=(X9 m U).map tI) (EF.e' (M4 (pre:=dO1) (X:=E0) (A3 v0 A7) ⟨m,U,tr,J,rfl,rfl⟩))) (by rw[Aa3];unfold sizeLine;exact aH7) (λd hd=>by
  obtain⟨l,hl,rfl⟩:=Aa8.mp hd;refine⟨_,B6,?_⟩;have e:=W4 (K:=K) (m:=false) (ρ:=(slC [vD U,.val (tN [x,y,z]),.own ((R4 (bT6 U x y z)).map tI)] 1 [2]).set 0 (.val (tI l))) v0 (aN9 (i:=1) rfl) rfl (X0 _).fit (cK0 _);show match (if((R4 (bT6 U x y z)).map tI).any (λz=>PyData.eqv z (tI l)) then none else some (tI l)) with | none=>_ | some y=>_
  cases h:((R4 (bT6 U x y z)).map tI).any (λz=>PyData.eqv z (tI l)) with
  | true=>rw[h]at e;exact C2 e
  | false=>rw[h]at e;exact⟨C2 e,A5 rfl⟩)
 rw[cZ4]at B;refine aE6 B ?_;unfold cB2
 congr 1
 refine List.filter_congr λt _=>?_
 rw[Bc.mpr (C8 _).mem_iff]
end
end K37
namespace TT
def rsn (u v:Nat->Nat->Bool)(p q:Nat):Int:=(if u p q then 1 else 0)-(if v p q then 1 else 0)
structure Po (r:Nat->AD)(u v:Nat->Nat->Bool)(H:Nat->Nat->Int):Prop where
 fa:∀q x y,adj (r q) x y->H q x=H x y
 st:∀p q,q∈r p->H q p=H p q-rsn u v p q
 z:H 0 2=0
section
theorem Po.refl:Po r u u λ_ _=>0:=⟨λ_ _ _ _=>rfl,λp q _=>by unfold rsn;simp,rfl⟩
theorem Po.symm (h:Po r u v H):Po r v u λp q => - H p q:=⟨λq x y e=>by rw[h.fa q x y e],λp q j=>by have:=h.st p q j;unfold rsn at *;lia,by have:=h.z;simp[*]⟩
theorem Po.trans (h:Po r u v H)(e:Po r v w H'):Po r u w λp q=>H p q+H' p q:=
 ⟨λq x y j=>by rw[h.fa q x y j,e.fa q x y j],λp q c=>by have:=h.st p q c;have:=e.st p q c;unfold rsn at *;lia,by have:=h.z;have:=e.z;simp[*]⟩
theorem Po.lnd (G:Good n r)(h:Po r u v H)(s:q∈r p)(j:q'∈r p')(e:lnd r p q=lnd r p' q'):H p q=H p' q':=
 (bT2 G (P:=λx y=>H x y=H p' q') (λq x y c=>by rw[h.fa q x y c]) s j e).mpr rfl
theorem dF8 (G:Good n r)(S:Rs r)(m:b∈r a)(Y:c∈r b)(X:a∈r c)
  (h1:∀p q,q∈r p->((p=a/\q=b)\/(p=b/\q=c)\/(p=c/\q=a))->u p q=true/\v p q=false)
  (h2:∀p q,q∈r p->((q=a/\p=b)\/(q=b/\p=c)\/(q=c/\p=a))->u p q=false/\v p q=true)
  (h3:∀p q,q∈r p->¬((p=a/\q=b)\/(p=b/\q=c)\/(p=c/\q=a))->¬((q=a/\p=b)\/(q=b/\p=c)\/(q=c/\p=a))->u p q=v p q) :
  ∃(H:Nat->Nat->Int) (e:Int),(e=1\/e = -1)/\Po r u v H/\∀p q,H p q=0\/H p q=e:=by
 have n1:a≠b:=λe=>G.self b (by rw[e]at m;exact m)
 have n2:b≠c:=λe=>G.self c (by rw[e]at Y;exact Y)
 have n3:a≠c:=λe=>G.self c (by rw[e]at X;exact X)
 have nd:[a,b,c].Nodup:=by simp[n1,n2,n3]
 have C:Cy r (gi [a,b,c]) ([a,b,c].length-1):=Cy.ofList nd SS λx y h=>by
  rcases (bR6 n1 n2 n3).mp h with⟨rfl,rfl⟩ | ⟨rfl,rfl⟩ | ⟨rfl,rfl⟩
  .exact m
  .exact Y
  .exact X
 obtain⟨f,s,D⟩:=C.sd S;have fs:∀p q,((p=a/\q=b)\/(p=b/\q=c)\/(p=c/\q=a))->f p q=s:=λp q h=>by
  rcases h with⟨rfl,rfl⟩ | ⟨rfl,rfl⟩ | ⟨rfl,rfl⟩
  .exact D.fs 0 SS
  .exact D.fs 1 SS
  .exact D.fs 2 SS
 have zl:∀{x y:Nat},zc (gi [a,b,c]) ([a,b,c].length-1) x y=true↔((x=a/\y=b)\/(x=b/\y=c)\/(x=c/\y=a))\/((y=a/\x=b)\/(y=b/\x=c)\/(y=c/\x=a)):=λ{x y}=>by
  rw[X5 nd SS,bR6 n1 n2 n3,bR6 n1 n2 n3]
 have fx:∀{x y:Nat},y∈r x->xor (f x y) (f y x)=zc (gi [a,b,c]) ([a,b,c].length-1) y x:=λ{x y} h=>by
  obtain⟨q,U⟩:=aR3 h;have F:=D.fa _ _ _ U;have B:=D.fb _ _ _ (S.tri _ _ _ U);rw[F];exact B
 have P:∀(e:Int),(e=1/\f 0 2 = !s\/e = -1/\f 0 2=s)->Po r u v λp q=>if f p q=f 0 2 then 0 else e:=λe he=>by
  refine⟨λq x y ha=>by rw[D.fa q x y ha],λp q U=>?_,SS⟩
  have Q:=fx U
  by_cases M:(p=a/\q=b)\/(p=b/\q=c)\/(p=c/\q=a)
  .obtain⟨F,B⟩:=h1 p q U M;rw[zl.mpr (.inr M),fs p q M]at Q;have J:f q p = !s:=by revert Q;cases s <;> cases f q p <;> simp
   unfold rsn;rw[fs p q M,J,F,B];rcases he with⟨rfl,j⟩ | ⟨rfl,j⟩ <;> rw[j] <;> cases s <;> simp
  by_cases R:(q=a/\p=b)\/(q=b/\p=c)\/(q=c/\p=a)
  .obtain⟨F,B⟩:=h2 p q U R;rw[zl.mpr (.inl R),fs q p R]at Q;have J:f p q = !s:=by revert Q;cases s <;> cases f p q <;> simp
   unfold rsn;rw[fs q p R,J,F,B];rcases he with⟨rfl,j⟩ | ⟨rfl,j⟩ <;> rw[j] <;> cases s <;> simp
  .have hz:zc (gi [a,b,c]) ([a,b,c].length-1) q p=false:=by
    rw[Bool.eq_false_iff];intro z;rcases zl.mp z with z | z
    .exact R z
    .exact M z
   rw[hz]at Q
   have:f p q=f q p:=by revert Q;cases f p q <;> cases f q p <;> simp
   unfold rsn;rw[h3 p q U M R,this];simp
 by_cases j:f 0 2=s
 .exact⟨_,-1,.inr rfl,P _ (.inr ⟨rfl,j⟩),λp q=>by by_cases h:f p q=f 0 2 <;> simp[h]⟩
 .have j:f 0 2 = !s:=by revert j;cases f 0 2 <;> cases s <;> simp
  exact⟨_,1,.inl rfl,P _ (.inl ⟨rfl,j⟩),λp q=>by by_cases h:f p q=f 0 2 <;> simp[h]⟩
end
end TT
namespace LV
open PySem PySem.Spec PySem.Calls PySem.W PyProof.Rows L2 Att
section
variable {prog:Program}{w:World}{A:Around}{E:Ed}{s:Shared}
theorem bL3 (hh:A.handled=none)(lo:(d==sysModules)=false)(hm:RawD s.heap d es ep)(hn:es.size<=sizeLine)
  (hQ:∀h' tk,s.heap.objs.size<=h'.objs.size->(∀b o,s.heap.get? b=some o->h'.get? b=some o)->Q (es.toList.map (·.key)) {s with heap:=h',toks:=tk}):wpAny (model prog w) A (collect (.ref d)) Q E s:=by
 refine Aa (wpAny_runValue (codeAny_builtin F.entry_proto_collect ?_));refine Aa (Cb ?_);refine Ae ⟨plainId_quiet F.plain_list_iadd _,codeAny_builtin F.entry_list_iadd ?_⟩;have hlt:=hm.lt;have J:=Nat.ne_of_gt hlt;have conv:∀(r:Result) (Y:Shared),(r=.ok (.ret (.ref s.heap.objs.size))/\∃c X,Y.heap.get? s.heap.objs.size=some {cls:=.type "list",dict:=none,data:=.seq c X,slots := #[]}/\c.toList=es.toList.map (·.key)/\Q (es.toList.map (·.key)) Y)->(match r with
   | .ok (.ret v)=>wpAny (model prog w) A (match v with
    | .ref a=>do
     let o <- load a
     match o.data with
     | .seq xs _=>pure xs.toList
     | _=>unsupported "internal:collect"
    | _=>unsupported "internal:collect") Q E Y
   | .ok _=>False
   | .error e=>E e Y):=by
  rintro r Y ⟨rfl,c,X,h1,D,B⟩;refine Aa (wpAny_load h1 (Ae ?_));rw[D];exact B
 refine wpAny_mono (kdl_extend (R:=λr Y=>r=.ok (.ret (.ref s.heap.objs.size))/\∃c X,Y.heap.get? s.heap.objs.size=some {cls:=.type "list",dict:=none,data:=.seq c X,slots := #[]}/\c.toList=es.toList.map (·.key)/\Q (es.toList.map (·.key)) Y) (cS9 lo) hh (hm.kp λo e=>Aa6 _ e) s.heap.objs.size J J (.ref s.heap.objs.size) 0 (Ac3 _ rfl) (λh' tk c X hk U m=>?_) hn) (λfin Y P=>?_) λe Y M=>by obtain⟨z,_⟩:=M;cases z
 .have e:c.toList=es.toList.map (·.key):=by
   refine List.ext_getElem? λj=>?_
   rw[Eb,Aa9,Eb];by_cases hj:j<es.size
   .have h1:j<c.size:=by rw[m.1];exact hj
    obtain⟨e,D,B⟩:=m.2 j _ (Bi h1);rw[Bi h1,D,B];rfl
   .rw[Dn (by rw[m.1];simp_all),Dn YY];rfl
  exact⟨rfl,c,X,U,e,hQ _ _ (Cm (Ab3 U)) λb o M=>hk b o (Ab9 (Ab3 M)) (Aa6 _ M)⟩
 .cases fin with
  | done f=>exact conv _ _ P
  | again X=>exact⟨P.1,codeAny_mono P.2 λr s'' h=>conv r s'' h⟩
theorem bQ9 (B:∀(Q':AH->Shared->Prop) (E':Ed),(∀h' tk,(∀b o,s.heap.get? b=some o->h'.get? b=some o)->Q' vs {s with heap:=h',toks:=tk})->wpAny (model prog w) A.in1 (collect (.ref l)) Q' E' s)
  (F:Fr h₀ L s.heap m) (N:News h₀ L s.heap news) (R:2<=vs.length) (Y:vs.length<64)
  (h:∀D e1 h' tk,Fr h₀ L h' m->News h₀ L h' ((D,seqObj "list" #[] e1)::news)->(∀q∈news,q.1<D) ->
   wpAny (model prog w) A.in1.in1 (keyKind' vs.toArray) (λκ s'=>(kas_sort vs.length).kasWp (kas_ask prog w A.in1.in1 κ vs) (λp s''=>KasFin h₀ L m D e1 (p.toList.map λi=>vs.getD i Value.none) (λs3=>Q (.ref D) s3) s'') s') (λ_ _=>False) {s with heap:=h',toks:=tk}) :
  wpAny (model prog w) A (call (.builtin "sorted") [.ref l]) Q E s:=by
 refine Calls.call_function_entry kind_sorted plain_sorted entry_sorted (args_sorted1 _) ?_;refine Aa (Ae ?_);refine Aa (B _ _ λg tk e=>?_)
 refine Aa (wpAny_newList ?_ (by rw[Dt];lia))
 have c:(g.push (seqObj "list" vs.toArray 0)).get? g.objs.size=some (seqObj "list" vs.toArray 0):=Ac3 _ rfl
 have keep:∀b o,s.heap.get? b=some o->(g.push (seqObj "list" vs.toArray 0)).get? b=some o:=λb o q=>Aa6 _ (e b o q)
 have j:L<g.objs.size:=by
  obtain⟨o,_,_,ho,_⟩:=F.ns;exact Ab3 (e _ _ ho)
 refine Aa (Cg (Cj slot_list_sort ⟨_,c,rfl⟩ entry_list_sort ?body (args_list_sort _)))
 case body=>
  refine kat_list_sort
   (F.kept keep) (N.grown keep) c (Nat.ne_of_gt j) (Heap.get?_none_of_le (Aq F.above (Cm j)))
   (λp hp=>Ab9 (Ab3 (e _ _ (N p hp).1))) R Y λe1 h' J M=>?_
  refine wpAny_mono (h _ e1 h' tk J M λq U=>Ab3 (e _ _ (N q U).1)) (λκ s' e=>?_) λ_ _ x=>x
  rw[kat_ask_eq rfl]at e ⊢;exact kas_wp_mono e λp s'' X=>X.mono λs3 U=>⟨_,rfl,Ae ⟨_,rfl,U⟩⟩
theorem aK8 (hc:∀(Q':AH->Shared->Prop) (E':Ed),(∀h' tk,(∀b o,s.heap.get? b=some o->h'.get? b=some o)->Q' vs {s with heap:=h',toks:=tk})->wpAny (model prog w) A.in1 (collect (.ref l)) Q' E' s)
  (hL:s.heap.Ns L m) (ht:TupsAt s.heap vs ts) (U:∀a,Value.ref a∈vs->a≠L) (h2:2<=vs.length) (h64:vs.length<64)
  (h:∀h' tk D (p:AD) c,h'.Ns L m->(∀b o,b≠L->s.heap.get? b=some o->h'.get? b=some o)->s.heap.get? D=none->h'.get? D=some {cls:=.type "list",data:=.seq (p.map λi=>vs.getD i .none).toArray c}->p.Perm (List.range vs.length)->(p.map λi=>ts.getD i []).Pairwise J7->Q (.ref D) {s with heap:=h',toks:=tk}) :
  wpAny (model prog w) A (call (.builtin "sorted") [.ref l]) Q E s:=by
 have hlen:=ht.length
 refine bQ9 hc (cX8 hL) bX9 h2 h64 λD e1 h' tk F' P hD=>?_
 have kp:=λb o hb e=>(P (b,o) (Ad4 _ (S4 hb (U6 _ _) e))).1
 have DL:=(P _ Az).2.1
 have hDs:s.heap.get? D=none:=by
  cases e:s.heap.get? D with
  | none=>rfl
  | some o=>exact absurd (hD (D,o) (S4 DL (U6 _ _) e)) (Ad9 _)
 have Y:=ht.keep λa its ha ⟨o,e,r⟩=>⟨o,kp a o (U a ha) e,r⟩
 obtain⟨fs,k1,k2,k3⟩:=Y.kat;refine kat_kind k1 LL (T:=.type "int") (λv hv=>?_) DD ?_
 .obtain⟨i,t,rfl⟩:=k3 v hv;exact λA Q E s _ q=>wpAny_of_eq (show typeOf (Value.int i t)=pure (.type "int") from rfl) q
 have et:(Value.type "int" != Value.type "tuple")=true:=by decide
 obtain⟨R,e0,hp,hs,ha⟩:=LS.cF0 (cG7 λi=>ts.getD i []) (N:=vs.length) zq1
 refine LS.cX3 (λi j C hi hj hC=>?_) _ ha ?_
 .obtain⟨a,its,e,⟨o,h1,c1,n1,d1⟩,r1⟩:=Y.get (i:=i) YY
  obtain⟨a',M,e',⟨o',h1',c1',n1',d1'⟩,F⟩:=Y.get (i:=j) YY
  unfold kas_ask;rw[e,e'];refine kat_lt h1 d1 h1' d1' ?_;have el:decide (its.size<M.size)=decide ((ts.getD i []).length<(ts.getD j []).length):=by
   have a1:=r1.length;have a2:=F.length
   simp only[Bb]at a1 a2;rw[a1,a2]
  rw[el];exact aD0 0 r1 F hC
 .rw[e0];refine KasFin.intro F' P (.head λp hp z=>?_) λh'' c B X=>?_
  .have:=hD p hp
   rw[z]at this;exact absurd this (Ad9 _)
  .have kp2:=λb o hb e=>(X (b,o) (Ad4 _ (S4 hb (U6 _ _) e))).1
   have J:R.toList.Perm (List.range vs.length):=by simpa using(Array.perm_iff_toList_perm.mp hp)
   refine h h'' tk D R.toList c B.ns kp2 hDs (X _ Az).1 J ?_;rw[Ae0,List.pairwise_iff_getElem];intro i j hi hj hij;have hz:R.toList.length=vs.length:=by rw[J.length_eq];simp
   have:=hs i j (Cm hij) YY
   rw[LS.aV4,LS.aV4]at this;have hi':i<R.size:=by simpa using hi
   have hj':j<R.size:=by simpa using hj
   simp  [Bi hi',Bi hj',Option.getD_some]at this
   unfold J7;simpa using this
end
section
def rSK (K:Frag):List V->Hp->VK->Prop:=λxs H Q=>∃(p:Addr) (kv:List (AF×Addr×V)),xs=[.ref p]/\H p=some (dicO p kv)/\bE8 K H kv/\(∀x∈kv,x.1≠[])/\2<=kv.length/\kv.length<64 /\
  ∀a (q:AD),H a=none->q.Perm (List.range kv.length)->(q.map λi=>(kv.map (·.1)).getD i []).Pairwise J7->Q (.ref a) (upd H a (.lst (q.map λi=>(kv.map λx=>V.ref x.2.1).getD i .non)))
theorem aY4 {K:Frag}{H:Hp}:∀{kv:List (AF×Addr×V)},bE8 K H kv->(∀x∈kv,x.1≠[])->TupsV K H (kv.map λx=>V.ref x.2.1) (kv.map (·.1))
 | [],_,_=>trivial
 | x::kv,h,hn=>⟨⟨x.2.1,rfl,h x SS,hn x SS⟩,aY4 (λz e=>h z (by simp[e])) λz e=>hn z (by simp[e])⟩
theorem cA0 (K:Frag)(hc:X.calm=true)(h:X.K=K:=by rfl):Q4 X (.builtin "sorted") (rSK K):=by
 subst h;intro aA s σ H xs us Q I r ⟨p,kv,e,hq,J,hn,h2,h64,q⟩;subst e;obtain⟨u,rfl,rx⟩:=U4 r;cases rx;obtain⟨xs,es,ep,rr,z,hd,R,h4,_⟩:=dT2 I hq;have hz:=cT7 rr h4;have F:Vals (kv.map λx=>V.ref x.2.1) (es.toList.map (·.key)):=by
  rw[h4,Ae3];exact KvR.refs rr
 have j:=F.length
 rw[Aa3]at j;obtain⟨m,hm,_⟩:=I.loc;obtain⟨ta,tl⟩:=aW2 I (aY4 J hn) F;refine aK8 (λQ' E' M=>bL3 (by have:=I.ok.hd hc;simp[this]) hd R (by rw[hz];exact z) λh' P _ J=>M h' P J) hm ta tl YY YY λh' P D pp c Y kp hD el hp hs=>?_
 have U:∀i∈pp,i<(kv.map λx=>V.ref x.2.1).length:=λi hi=>by have:=Ab5.mp (hp.mem_iff.mp hi);rw[Aa3];simp_all
 have B:=aF9 F U
 obtain⟨HD,I'⟩:=z6 I hm Y kp hD el B (by rw[Aa3,hp.length_eq,Cd];simp_all)
 exact⟨.ref D,_,I'.tok P,rfl,q D pp HD (by rw[j];exact hp) hs⟩
end
end LV
namespace LV
open PySem L2 PyProof.Rows
section
variable {K:Frag}{ρ:List Sl}{m:Bool}{td:TE}
theorem cT4 {ss:AC}(h:E K false td ρ (.dict (V9 kvs)))(X:∀x∈kvs,x.1≠[])(s:2<=kvs.length)(F:kvs.length<64)(hp:ss.Perm (kvs.map (·.1)))(hs:ss.Pairwise J7) :
  EF K (tCB (rSK K) (E8 td R3)) ρ (ss.map tI):=
 cF5 (A3 h A7) (e7 bB5 ss) λH vs Q r q=>by
  cases r with
  | cons a b=>
   cases b
   obtain⟨p,kv,rfl,e,k⟩:=cE5 a;have Y:=k.keys;have hl:kv.length=kvs.length:=by have:=congrArg List.length Y;simpa using this
   have r:=cV9 k
   have R:(kvs.map λx=>PyData.tuple (x.1.map PyData.int))=(kvs.map (·.1)).map tI:=by rw[Ae3];rfl
   rw[R]at r;refine⟨p,kv,rfl,e,k.keyR,λx hx=>?_,XX,XX,λa U h1 s J=>q a _ h1 ?_⟩
   .have:x.1∈kvs.map (·.1):=by rw[<- Y];exact List.mem_map_of_mem hx
    obtain⟨y,hy,e⟩:=Aa8.mp this;rw[<- e];exact X y hy
   .rw[Y]at J;have P:(kv.map λx=>V.ref x.2.1).length=kv.length:=Aa3 ..
    have e:(U.map λi=>(kvs.map (·.1)).getD i [])=ss:=by
     have c:(U.map λi=>(kvs.map (·.1)).getD i []).Perm (kvs.map (·.1)):=by
      have M:(U.map λi=>(kvs.map (·.1)).getD i []).Perm ((List.range kv.length).map λi=>(kvs.map (·.1)).getD i []):=s.map _
      have D:(List.range kv.length).map (λi=>(kvs.map (·.1)).getD i [])=kvs.map (·.1):=by
       refine List.ext_getElem? λj=>?_
       by_cases B:j<kv.length
       .rw[O5 B];simp[List.getD,Aa2 (show j<kvs.length by simp_all)]
       .rw[Ad6 (by simp;exact zq9),Ad6 (by simp;simp_all)]
      rw[D]at M;exact M
     exact List.Perm.eq_of_pairwise (λa b _ _ h1 s=>aD9 a b h1 s) J hs (c.trans hp.symm)
    have:=aG7 r λi hi=>by
     have:=Ab5.mp (s.mem_iff.mp hi)
     rw[Aa3];exact this
    rw[e]at this;exact this
end
end LV
namespace TT
open Classical
section
variable {n:Nat}{r:Nat->AD}{A:Nat->Nat->Prop}{l:AD}{f:Nat->Nat->Bool}{s:Bool}
structure DC (A:Nat->Nat->Prop)(l:AD):Prop where
 nd:l.Nodup
 h3:3<=l.length
 ar:∀a b,adj l a b->A a b
structure Sl (r:Nat->AD)(l:AD)(f:Nat->Nat->Bool)(s:Bool):Prop where
 fa:∀q a b,adj (r q) a b->f q a=f a b
 fb:∀p x q,adj (r p) x q->xor (f p x) (f p q)=decide (adj l p q\/adj l q p)
 fs:∀a b,adj l a b->f a b=s
theorem DC.cy (e:∀p q,A p q->q∈r p)(D:DC A l):Cy r (gi l) (l.length-1):=Cy.ofList D.nd D.h3 λa b h=>e a b (D.ar a b h)
theorem dO3 (j:1<=l.length)(c:k<=l.length-1):adj l (gi l k) (nz (gi l) (l.length-1) k):=by
 unfold nz;by_cases e:k=l.length-1
 .rw[Ac e,e];exact aF3 AO
 .rw[Ab e];exact aD3 LL
theorem DC.sl (S:Rs r)(m:∀p q,A p q->q∈r p)(D:DC A l):∃f s,Sl r l f s:=by
 obtain⟨f,s,H⟩:=(D.cy m).sd S;refine⟨f,s,H.fa,λp x q h=>?_,λa b h=>?_⟩
 .rw[H.fb p x q h,By,X5 D.nd D.h3,Ai]
 .have c:=(B2 h).1
  have Y:=Ac4 c
  have e:=R5 c
  have h1:=dO3 (l:=l) (by have:=D.h3;exact bM3) (k:=l.idxOf a) LL
  rw[e]at h1;have j:=H.fs (l.idxOf a) LL
  rw[e,Q7 D.nd h1 h]at j;exact j
theorem Sl.sd (D:DC A l)(H:Sl r l f s):Sd r (gi l) (l.length-1) f s:=by
 refine⟨H.fa,λp x q h=>?_,λk e=>H.fs _ _ (dO3 (by have:=D.h3;exact bM3) e)⟩
 rw[H.fb p x q h,By,X5 D.nd D.h3,Ai]
theorem Sl.jordan (G:Good n r)(S:Rs r)(m:∀p q,A p q->q∈r p)(D:DC A l)(H:Sl r l f s)(j:adj l a b\/adj l b a)(c:q∈r p):Rc r (λp q=>adj l p q\/adj l q p) a b p q↔f p q=f a b:=by
 have h:=TT.jordan G S (D.cy m) (H.sd D) ((X5 D.nd D.h3).mpr j) c
 have e:(λp q=>zc (gi l) (l.length-1) p q=true)=λp q=>adj l p q\/adj l q p:=by
  funext p q;exact propext (X5 D.nd D.h3)
 rw[e]at h;exact h
theorem Sl.same (S:Rs r)(H:Sl r l f s)(h:y∈r x)(e:¬(adj l x y\/adj l y x)):f x y=f y x:=
 dS7 S H.fa H.fb h (Aj λz=>e z.symm)
theorem Sl.ne (S:Rs r)(Y:∀p q,A p q->q∈r p)(D:DC A l)(H:Sl r l f s)(h:adj l a b):f b a≠s:=by
 obtain⟨q,j⟩:=aR3 (Y _ _ (D.ar _ _ h));have c:=H.fa _ _ _ j;have e:=H.fb _ _ _ (S.tri _ _ _ j);have m:=H.fs _ _ h;rw[Am (.inr h),<- c,m]at e;intro z;rw[z]at e;cases s <;> simp at e
theorem cI6 (v w:Nat)(B C:AD)(a b:Nat):adj (v::(B++w::C)) a b↔lin (v::(B++[w])) a b\/lin (w::(C++[v])) a b:=by
 unfold adj;have e:v::(B++w::C)++(v::(B++w::C)).take 1=(v::B)++w::(C++[v]):=by simp
 rw[e,B9]
 simp
theorem cZ9 (u:AD)(v:Nat)(h:u≠[]):∃e,lin (u++[v]) e v:=by
 obtain⟨p,e,rfl⟩:=(Ac5 u).resolve_left h;exact⟨e,lin_iff.mpr ⟨p,[],SS⟩⟩
theorem cN1 (v:Nat)(B:AD)(w:Nat):∃q,lin (v::(B++[w])) v q:=by
 cases B with
 | nil=>exact⟨w,lin_iff.mpr ⟨[],[],rfl⟩⟩
 | cons b B=>exact⟨b,lin_iff.mpr ⟨[],B++[w],rfl⟩⟩
theorem DC.less (G:Good n r)(S:Rs r)(M:∀p q,A p q->q∈r p)(ha:∀p q,A p q->¬A q p)(D:DC A (v::(B++w::C)))(H:Sl r (v::(B++w::C)) f s)
  (hp:∀a b,lin (v::(P++[w])) a b->A a b/\f a b=s/\f b a=s) (pd:P.Nodup) (po:∀x∈P,x∉v::(B++w::C)) :
  ∃l' f' s',DC A l'/\Sl r l' f' s'/\(∀p q,q∈r p->f' p q=s'->f p q=s)/\∃p q,q∈r p/\f p q=s/\f' p q≠s':=by
 have m:=cI6 v w B C
 have J:=cI6 w v C P
 have nd:=D.nd
 have D':DC A (w::(C++v::P)):=by
  refine⟨?_,?_,λa b h=>?_⟩
  .have hv:∀x∈P,x≠v/\x∉B/\x≠w/\x∉C:=λx Y=>by
    have:=po x Y
    simp  [Aa1,Aa0,not_or]at this
    exact⟨this.1,this.2.1,this.2.2.1,this.2.2.2⟩
   simp only[Aa5,Aa4,Aa0,Aa1,not_or]at nd ⊢;obtain⟨⟨n1,n2,n3⟩,n4,⟨n5,n6⟩,n7⟩:=nd;refine⟨⟨n5,λe=>n2 e.symm,λe=>(hv w e).2.2.1 rfl⟩,n6,⟨λe=>(hv v e).1 rfl,pd⟩,?_⟩
   intro x Y y hy e;subst e;rcases hy with rfl | hy
   .exact n3 Y
   .exact(hv x hy).2.2.2 Y
  .by_cases e:C=[]/\P=[]
   .obtain⟨rfl,rfl⟩:=e;have U:=D.ar w v ((m w v).mpr (.inr (lin_iff.mpr ⟨[],[],rfl⟩)));exact absurd (hp v w (lin_iff.mpr ⟨[],[],rfl⟩)).1 (ha _ _ U)
   .have:C.length+P.length≠0:=λz=>e ⟨List.eq_nil_of_length_eq_zero YY,List.eq_nil_of_length_eq_zero YY⟩
    simp  [Au,Ab7]
    lia
  .rcases (J a b).mp h with h | h
   .exact D.ar a b ((m a b).mpr (.inr h))
   .exact(hp a b h).1
 obtain⟨f',s',R⟩:=D'.sl S M;obtain⟨e,he⟩:=cZ9 (w::C) v SS
 have he:lin (w::(C++[v])) e v:=by simpa using he
 have ae:=(m e v).mpr (.inr he)
 have ae':=(J e v).mpr (.inl he)
 have Q:=H.ne S M D ae
 have F:∀p q,q∈r p->f p q≠s->f' p q=f' v e:=λp q j c=>by
  have e1:f p q=f v e:=by revert c Q;cases f p q <;> cases f v e <;> cases s <;> simp
  have rc:=(H.jordan G S M D (.inr ae) j).mpr e1
  have:f' p q=f' v e/\f p q≠s:=by
   clear c e1 j
   induction rc with
   | base=>exact⟨rfl,Q⟩
   | rot _ Y X=>exact⟨by rw[<- R.fa _ _ _ Y];exact X.1,by rw[<- H.fa _ _ _ Y];exact X.2⟩
   | cross _ j c X=>
    have e2:=H.same S j c
    refine⟨?_,by rw[<- e2];exact X.2⟩
    rw[<- X.1];refine(R.same S j ?_).symm;rintro (z | z)
    .rcases (J _ _).mp z with z | z
     .exact c (.inl ((m _ _).mpr (.inr z)))
     .exact X.2 (hp _ _ z).2.1
    .rcases (J _ _).mp z with z | z
     .exact c (.inr ((m _ _).mpr (.inr z)))
     .exact X.2 (hp _ _ z).2.2
  exact this.1
 have hk:=R.ne S M D' ae'
 refine⟨_,f',s',D',R,λp q j h=>?_,?_⟩
 .refine Classical.byContradiction λc=>hk ?_
  rw[<- F p q j c];exact h
 .obtain⟨q,j⟩:=cN1 v B w;have U:=(m v q).mpr (.inl j);have m1:=M _ _ (D.ar _ _ U);have o1:=H.ne S M D U;refine⟨v,q,m1,H.fs _ _ U,?_⟩;have e1:=R.same S m1 (by
   rintro (z | z)
   .rcases (J _ _).mp z with z | z
    .have hm:=M8 (u:=w::C) (by simpa using z)
     simp  [Aa5,Aa4,Aa0,Aa1,not_or]at nd hm
     rcases hm with hm | hm
     .exact nd.1.2.1 hm
     .exact nd.1.2.2 hm
    .exact o1 (hp _ _ z).2.2
   .rcases (J _ _).mp z with z | z
    .have a2:=(m _ _).mpr (.inr z)
     exact ha _ _ (D.ar _ _ U) (D.ar _ _ a2)
    .exact o1 (hp _ _ z).2.1)
  rw[e1,F q v (S.sym _ _ m1) o1];exact hk
end
noncomputable def iv (P:Prop):Nat:=if P then 1 else 0
theorem L7 (h:P):iv P=1:=Ac h
theorem Q1 (h:¬P):iv P=0:=Ab h
def sm (Y:AD)(g:Nat->Nat):Nat:=(Y.map g).sum
theorem Q6 (y:Nat)(Y:AD)(g:Nat->Nat):sm (y::Y) g=g y+sm Y g:=by simp[sm]
theorem aI2 (H:∀y∈Y,g y<=h y):sm Y g<=sm Y h:=by
 induction Y with
 | nil=>exact Aa7 _
 | cons y Y j=>
  rw[Q6,Q6]
  have:=j λz e=>H z (by simp[e])
  have:=H y SS
  lia
theorem bX5 (H:∀y∈Y,g y=h y):sm Y g=sm Y h:=Nat.le_antisymm (aI2 λy e=>Nat.le_of_eq (H y e)) (aI2 λy e=>Nat.le_of_eq (H y e).symm)
theorem Y3 (Y:AD)(g h:Nat->Nat):sm Y (λy=>g y+h y)=sm Y g+sm Y h:=by
 induction Y with
 | nil=>rfl
 | cons y Y e=>rw[Q6,Q6,Q6,e];lia
theorem aN1 (Y:AD):sm Y (λ_=>0)=0:=by
 induction Y with
 | nil=>rfl
 | cons y Y e=>rw[Q6,e]
theorem bB7 (Y:AD)(c:Nat):sm Y (λ_=>c)=c*Y.length:=by
 induction Y with
 | nil=>rfl
 | cons y Y e=>rw[Q6,e,Au,Nat.mul_succ];lia
theorem dH0 (Y Z:AD)(g:Nat->Nat->Nat):sm Y (λp=>sm Z λq=>g p q)=sm Z λq=>sm Y λp=>g p q:=by
 induction Y with
 | nil=>exact(aN1 Z).symm
 | cons y Y e=>
  rw[Q6,e]
  have:(λq=>sm (y::Y) λp=>g p q)=λq=>g y q+sm Y λp=>g p q:=by funext q;rw[Q6]
  rw[this,Y3]
theorem dD7 (h:Y.Perm Z)(g:Nat->Nat):sm Y g=sm Z g:=(h.map g).sum_nat
theorem bI8 (h:a∈Y)(g:Nat->Nat):sm Y g=g a+sm (Y.erase a) g:=by
 rw[dD7 (List.perm_cons_erase h),Q6]
theorem bX4 (X:a∈Y)(U:b∈Y)(J:c∈Y)(h1:a≠b)(s:b≠c)(m:a≠c)(ga:1<=g a)(M:1<=g b)(R:1<=g c):3<=sm Y g:=by
 have e:=(List.mem_erase_of_ne h1.symm).mpr U
 have j:=(List.mem_erase_of_ne s.symm).mpr ((List.mem_erase_of_ne m.symm).mpr J)
 rw[bI8 X,bI8 e,bI8 j]
 lia
noncomputable def arN (A:Nat->Nat->Prop)(Y:AD):Nat:=sm Y λp=>sm Y λq=>iv (A p q)
structure O3 (n:Nat)(r:Nat->AD)(A:Nat->Nat->Prop):Prop where
 tie:∀p q,A p q->q∈r p
 anti:∀p q,A p q->¬A q p
 tot:∀p q,q∈r p->(3<=p\/3<=q)->A p q\/A q p
 co:∀p q,A p q->3<=p
 out:∀p,3<=p->p<n->∃a b c,a≠b/\b≠c/\a≠c/\∀q,A p q↔q=a\/q=b\/q=c
def aK5 (n:Nat)(A:Nat->Nat->Prop):Prop:=∀Y:AD,Y≠[]->Y.Nodup->(∀p∈Y,3<=p/\p<n)->arN A Y+3<=3*Y.length
section
variable {n:Nat}{r:Nat->AD}{A:Nat->Nat->Prop}{l:AD}{f:Nat->Nat->Bool}{s:Bool}
def Inn (r:Nat->AD)(l:AD)(f:Nat->Nat->Bool)(s:Bool)(x:Nat):Prop:=x∉l/\∀q∈r x,f x q=s
theorem Sl.inn (H:Sl r l f s)(j:x∉l)(c:q∈r x)(h:f x q=s):Inn r l f s x:=by
 refine⟨j,bW8 (λa b e h=>?_) c h⟩
 have:=H.fb _ _ _ e
 rw[Aj (by rintro (z | z);exact j (B2 z).1;exact j (B2 z).2),h]at this
 revert this
 cases f x b <;> cases s <;> simp
theorem Sl.at_in (S:Rs r)(H:Sl r l f s)(e:Inn r l f s x)(j:y∈r x):f x y=s/\f y x=s:=by
 have h:=e.2 y j
 refine⟨h,?_⟩;rw[<- H.same S j (by rintro (z | z);exact e.1 (B2 z).1;exact e.1 (B2 z).2)]
 exact h
theorem Sl.step (S:Rs r)(H:Sl r l f s){x y:Nat}(c:Inn r l f s x)(e:y∈r x)(j:y∉l):Inn r l f s y:=H.inn j (S.sym _ _ e) (H.at_in S c e).2
def Rp (A:Nat->Nat->Prop)(I:Nat->Prop)(u x:Nat):Prop:=∃P:AD,P.Nodup/\P.head? = some u/\P.getLast? = some x/\(∀a b,lin P a b->A a b)/\∀y∈P,I y
theorem Rp.one (h:I u):Rp A I u u:=⟨[u],SS,rfl,rfl,λa b z=>absurd z (by simp[lin]),by simpa using h⟩
theorem Rp.more (R:Rp A I u x)(h:A x y)(hy:I y):Rp A I u y:=by
 obtain⟨P,U,c,B,J,hi⟩:=R;by_cases e:y∈P
 .obtain⟨j,X,rfl⟩:=Ad5 e;have M:j++y::X=(j++[y])++X:=by simp
  refine⟨j++[y],?_,?_,SS,λa b z=>J a b ((B9 y X a b j).mpr (.inl z)),λz hz=>hi z (by rw[M];exact Ak _ hz)⟩
  .rw[M]at U;exact(Aa4.mp U).1
  .cases j with
   | nil=>simpa using c
   | cons a j=>simpa using c
 .obtain⟨m,Y,rfl⟩:=(Ac5 P).resolve_left (λz=>by rw[z]at c;cases c)
  have Q:Y=x:=by simpa using B
  subst Q;rw[List.concat_eq_append]at *;refine⟨m++[Y]++[y],?_,?_,SS,λa b z=>?_,λz hz=>?_⟩
  .refine Aa4.mpr ⟨U,SS,λa D b F=>?_⟩
   rw[Ad8.mp F];exact λz=>e (z▸D)
  .cases m with
   | nil=>simpa using c
   | cons a m=>simpa using c
  .rw[Ad7]at z;rcases (B9 Y [y] a b m).mp z with z | z
   .exact J a b z
   .obtain⟨rfl,rfl⟩:a=Y/\b=y:=by simpa[lin]using z
    exact h
  .rcases Aa0.mp hz with hz | hz
   .exact hi z hz
   .rw[Ad8.mp hz];exact hy
theorem DC.at_two (D:DC A l)(H:Sl r l f s)(M:v∈l)(R:w∈l)(J:w≠v):∃B C,DC A (v::(B++w::C))/\Sl r (v::(B++w::C)) f s/\∀x,x∈v::(B++w::C)↔x∈l:=by
 obtain⟨m,Y,e⟩:=Ad5 M;have j:∀a b,adj (v::(Y++m)) a b↔adj l a b:=λa b=>by
  rw[e];exact(V6 m (v::Y) a b)
 have c:∀x,x∈v::(Y++m)↔x∈l:=λx=>by
  rw[e];simp  [Aa1,Aa0];constructor <;> rintro (h | h | h) <;> simp[h]
 have U:w∈Y++m:=by
  rcases Aa1.mp ((c w).mpr R) with h | h
  .exact absurd h J
  .exact h
 obtain⟨B,C,X⟩:=Ad5 U;rw[X]at j c;refine⟨B,C,⟨?_,?_,λa b h=>D.ar a b ((j a b).mp h)⟩,⟨H.fa,λp x q h=>by
   rw[H.fb p x q h];exact Bc.mpr ⟨λz=>z.imp (j _ _).mpr (j _ _).mpr,λz=>z.imp (j _ _).mp (j _ _).mp⟩,λa b h=>H.fs a b ((j a b).mp h)⟩,c⟩
 .rw[<- X]
  have:=D.nd
  rw[e]at this;exact(Ca).nodup_iff.mp this
 .rw[<- X]
  have:=D.h3
  rw[e]at this;simp at this ⊢;lia
theorem Sl.no_core (G:Good n r)(S:Rs r)(O:O3 n r A)(hb:aK5 n A)(H:Sl r l f s)(ho:f 0 2≠s)(hv:v∈l)(U:A v u)(h1:f v u=s)(h2:f u v=s)
  (fin:∀(w:Nat) (P:AD),w∈l->w≠v->P.Nodup->(∀x∈P,x∉l)->(∀a b,lin (v::(P++[w])) a b->A a b/\f a b=s/\f b a=s)->False):False:=by
 have m02:=G.sym (B2 G.out).2
 have hu:=O.tie _ _ U
 have huv:u≠v:=λz=>S.self v (z▸hu)
 by_cases M:u∈l
 .refine fin u [] M huv SS SS λa b z=>?_
  obtain⟨rfl,rfl⟩:a=v/\b=u:=by simpa[lin]using z
  exact⟨U,h1,h2⟩
 have iu:=H.inn M (S.sym _ _ hu) h2
 have lt:∀{x y},y∈r x->x<n:=λ{x y} hy=>by
  rcases De x n with z | z
  .exact z
  .rw[G.hi x z]at hy;cases hy
 have i3:∀x,Inn r l f s x->x<n->3<=x:=λx Q hn=>by
  have m:=G.out
  have Y:=G.tri _ _ _ m
  have a3:=G.tri _ _ _ Y
  have e1:=H.fa _ _ _ m
  have e2:=H.fa _ _ _ Y
  refine Nat.le_of_not_lt λz=>ho ?_
  rcases (show x=0\/x=1\/x=2 by lia) with rfl | rfl | rfl
  .exact Q.2 2 m02
  .rw[<- e2];exact Q.2 0 (B2 Y).1
  .rw[<- e2,<- e1];exact Q.2 1 (B2 m).1
 let X:=(List.range n).filter λx=>decide (Rp A (Inn r l f s) u x)
 have D:∀x,x∈X↔x<n/\Rp A (Inn r l f s) u x:=λx=>by simp[X]
 have iX:∀x,Rp A (Inn r l f s) u x->Inn r l f s x:=λx ⟨P,_,_,e,_,hi⟩=>hi x (List.mem_of_getLast? e)
 have stay:∀x,Rp A (Inn r l f s) u x->∀w,A x w->w∈l->w=v:=λx R w hw hwl=>Classical.byContradiction λhne=>by
  have ix:=iX x R
  obtain⟨P,nd,hh,e,ar,hi⟩:=R;refine fin w P hwl hne nd (λy hy=>(hi y hy).1) λa b z=>?_
  obtain⟨j,rfl⟩:∃j,P=u::j:=by
   cases P with
   | nil=>cases hh
   | cons a j=>exact⟨j,by rw[Ab4 hh]⟩
  rcases z with⟨rfl,rfl⟩ | z
  .exact⟨U,h1,h2⟩
  obtain⟨P0,F,B⟩:=(Ac5 (u::j)).resolve_left SS
  rw[List.concat_eq_append]at B;have ex:F=x:=by rw[B]at e;simpa using e
  subst ex;have z:lin (P0++F::[w]) a b:=by
   have:u::(j++[w])=P0++F::[w]:=by rw[<- Ab6,B,Ad7];rfl
   rw[<- this];exact z
  rcases (B9 F [w] a b P0).mp z with z | z
  .rw[<- B]at z;have J:=ar a b z
   have:=H.at_in S (hi a (X6 z).1) (O.tie _ _ J)
   exact⟨J,this⟩
  .obtain⟨rfl,rfl⟩:a=F/\b=w:=by simpa[lin]using z
   exact⟨hw,H.at_in S ix (O.tie _ _ hw)⟩
 have hvX:=λz=>(iX v ((D v).mp z).2).1 hv
 have nX:X.Nodup:=Bz.sublist (List.filter_sublist)
 have hlt:=lt hu
 have big:=hb (v::X) SS (Aa5.mpr ⟨hvX,nX⟩) (λp hp=>by
  rcases Aa1.mp hp with rfl | hp
  .exact⟨O.co _ _ U,hlt⟩
  .obtain⟨m,Y⟩:=(D p).mp hp;exact⟨i3 p (iX p Y) m,m⟩)
 have uX:=(D u).mpr ⟨lt (S.sym _ _ hu),Rp.one iu⟩
 have low:3*X.length+1<=arN A (v::X):=by
  unfold arN;rw[Q6];have e1:1<=sm (v::X) λq=>iv (A v q):=by
   rw[bI8 (Ad4 _ uX),L7 U];simp
  have e2:sm X (λ_=>3)<=sm X λp=>sm (v::X) λq=>iv (A p q):=aI2 λx Q=>by
   obtain⟨xn,R⟩:=(D x).mp Q;have ix:=iX x R;obtain⟨a,b,c,n1,n2,n3,hq⟩:=O.out x (i3 x ix xn) xn;have go:∀q,A x q->q∈v::X:=λq h=>by
    by_cases e:q∈l
    .rw[stay x R q h e];simp
    .exact Ad4 _ ((D q).mpr ⟨lt (S.sym _ _ (O.tie _ _ h)),R.more h (H.step S ix (O.tie _ _ h) e)⟩)
   have qa:=(hq a).mpr (.inl rfl)
   have qb:=(hq b).mpr (.inr (.inl rfl))
   have qc:=(hq c).mpr (.inr (.inr rfl))
   exact bX4 (go a qa) (go b qb) (go c qc) n1 n2 n3 (by rw[L7 qa];exact Aa7 1) (by rw[L7 qb];exact Aa7 1) (by rw[L7 qc];exact Aa7 1)
  rw[bB7]at e2
  lia
 rw[Au]at big
 lia
theorem DC.no_in (G:Good n r)(S:Rs r)(O:O3 n r A)(R:aK5 n A)(D:DC A l)(H:Sl r l f s)(ho:f 0 2≠s)
  (e:∀l' f' s',DC A l'->Sl r l' f' s'->f' 0 2≠s'->(∀p q,q∈r p->f' p q=s'->f p q=s)->(∃p q,q∈r p/\f p q=s/\f' p q≠s')->False)
  (c:v∈l) (M:A v u) (h1:f v u=s) (J:f u v=s):False:=
 H.no_core G S O R ho c M h1 J λw P Q j pd po hp=>by
  obtain⟨B,C,m,X,mm⟩:=D.at_two H c Q j;obtain⟨l',f',s',Y,U,sub,st⟩:=DC.less G S O.tie O.anti m X hp pd (λx F z=>po x F ((mm x).mp z))
  exact e l' f' s' Y U (λz=>ho (sub 0 2 (G.sym (B2 G.out).2) z)) sub st
theorem DC.no_inR (G:Good n r)(S:Rs r)(O:O3 n r A)(F:aK5 n A)(D:DC (λp q=>A q p) l)(H:Sl r l f s)(ho:f 0 2≠s)
  (j:∀l' f' s',DC (λp q=>A q p) l'->Sl r l' f' s'->f' 0 2≠s'->(∀p q,q∈r p->f' p q=s'->f p q=s)->(∃p q,q∈r p/\f p q=s/\f' p q≠s')->False)
  (Y:v∈l) (Q:A v u) (h1:f v u=s) (R:f u v=s):False:=
 H.no_core G S O F ho Y Q h1 R λw P hw m pd po hp=>by
  obtain⟨B,C,X,J,mm⟩:=D.at_two H hw Y m.symm;have c:∀a b,lin (w::(P.reverse++[v])) a b->(A b a)/\f a b=s/\f b a=s:=λa b h=>by
   have e:w::(P.reverse++[v])=(v::(P++[w])).reverse:=by simp
   rw[e]at h
   have:=hp b a (lin_rev.mp h)
   exact⟨this.1,this.2.2,this.2.1⟩
  obtain⟨l',f',s',U,M,sub,st⟩:=DC.less G S (λp q h=>S.sym _ _ (O.tie _ _ h)) (λp q h=>O.anti _ _ h) X J c ((List.reverse_perm P).nodup_iff.mpr pd) (λx hx z=>po x (Ds.mp hx) ((mm x).mp z))
  exact j l' f' s' U M (λz=>ho (sub 0 2 (G.sym (B2 G.out).2) z)) sub st
def sg (r:Nat->AD)(n:Nat)(g:Nat->Nat->Nat):Nat:=((gps r n).map λx=>g x.1 x.2).sum
theorem bL6 {L:List (Nat×Nat)}{g h:Nat×Nat->Nat}(H:∀x∈L,g x<=h x):(L.map g).sum<=(L.map h).sum:=by
 induction L with
 | nil=>exact Aa7 _
 | cons y Y j=>
  rw[Ac7,Ac7,List.sum_cons,List.sum_cons]
  have:=j λz e=>H z (by simp[e])
  have:=H y SS
  lia
theorem aX1 (L:List (Nat×Nat))(g h:Nat×Nat->Nat):(L.map λx=>g x+h x).sum=(L.map g).sum+(L.map h).sum:=by
 induction L with
 | nil=>rfl
 | cons y Y e=>rw[Ac7,Ac7,Ac7,List.sum_cons,List.sum_cons,List.sum_cons,e];lia
theorem cQ2 (L:List (Nat×Nat))(P:Nat×Nat->Prop):(L.map λx=>iv (P x)).sum=(L.filter λx=>decide (P x)).length:=by
 induction L with
 | nil=>rfl
 | cons y Y e=>
  rw[Ac7,List.sum_cons,e,List.filter_cons];by_cases h:P y
  .rw[L7 h,Ac (Am h),Au];lia
  .rw[Q1 h,Ab (by simpa using h)];simp
theorem bB8 (G:Good n r)(H:∀p q,q∈r p->g p q<=h p q):sg r n g<=sg r n h:=bL6 λx e=>H _ _ (G.gps_mem.mp e)
theorem u7 (g h:Nat->Nat->Nat):sg r n (λp q=>g p q+h p q)=sg r n g+sg r n h:=aX1 _ _ _
theorem bP5 (G:Good n r)(g:Nat->Nat->Nat):sg r n (λp q=>g q p)=sg r n g:=by
 have hp:((gps r n).map λx=>(x.2,x.1)).Perm (gps r n):=by
  refine(List.perm_ext_iff_of_nodup (Ae0.mpr (G.gps_nd.imp λh e=>h (Prod.ext (congrArg Prod.snd e) (congrArg Prod.fst e)))) G.gps_nd).mpr λx=>?_
  .rw[Aa8,G.gps_mem];constructor
   .rintro⟨y,hy,rfl⟩;exact G.sym (G.gps_mem.mp hy)
   .intro h;exact⟨(x.2,x.1),G.gps_mem.mpr (G.sym h),rfl⟩
 have:=(hp.map λx=>g x.1 x.2).sum_nat
 rw[Ae3]at this;exact this
theorem cW3 (G:Good n r)(g:Nat->Nat->Nat):sg r n (λp q=>g q (th r p q))=sg r n g:=by
 have hp:((gps r n).map λx=>(x.2,th r x.1 x.2)).Perm (gps r n):=by
  refine(List.perm_ext_iff_of_nodup ?_ G.gps_nd).mpr λx=>?_
  .refine Ae0.mpr (G.gps_nd.imp_of_mem λ{a b} j c h e=>h ?_)
   have j:=G.gps_mem.mp j
   have c:=G.gps_mem.mp c
   have m:a.2=b.2:=congrArg Prod.fst e
   have X:th r a.1 a.2=th r b.1 b.2:=congrArg Prod.snd e
   have Y:=G.th_rot j
   have U:=G.th_rot c
   rw[X,m]at Y;exact Prod.ext (Y.symm.trans U) m
  .rw[Aa8,G.gps_mem];constructor
   .rintro⟨y,hy,rfl⟩;exact(G.th_mem (G.gps_mem.mp hy)).1
   .intro h;exact⟨(th r x.1 x.2,x.1),G.gps_mem.mpr (G.th_mem h).2,Prod.ext rfl (G.th_rot2 h)⟩
 have:=(hp.map λx=>g x.1 x.2).sum_nat
 rw[Ae3]at this;exact this
theorem dL8 (G:Good n r){P:Nat->Nat->Prop}{L:List (Nat×Nat)}(H:∀p q,q∈r p->P p q->(p,q)∈L):sg r n (λp q=>iv (P p q))<=L.length:=by
 unfold sg;rw[cQ2 _ λx=>P x.1 x.2]
 refine aT7 (G.gps_nd.sublist List.filter_sublist) λx j=>?_
 obtain⟨h1,e⟩:=Ah.mp j;exact H _ _ (G.gps_mem.mp h1) (Ap e)
theorem bQ1 (G:Good n r){P:Nat->Nat->Prop}{L:List (Nat×Nat)}(j:L.Nodup)(H:∀x∈L,x.2∈r x.1/\P x.1 x.2):L.length<=sg r n (λp q=>iv (P p q)):=by
 unfold sg;rw[cQ2 _ λx=>P x.1 x.2]
 exact aT7 j λx e=>Ah.mpr ⟨G.gps_mem.mpr (H x e).1,Am (H x e).2⟩
inductive Rk (r:Nat->AD)(z:Nat->Nat->Prop)(a b:Nat):Nat->Nat->Nat->Prop
 | base:Rk r z a b 0 a b
 | rot {k q x y:Nat}:Rk r z a b k q x->adj (r q) x y->Rk r z a b k x y
 | cross {k p q:Nat}:Rk r z a b k p q->q∈r p->z p q->Rk r z a b (k+1) q p
theorem dE6 (G:Good n r){z F:Nat->Nat->Prop}(Q:b∈r a)(zs:∀p q,z p q->z q p)(hF:∀p q,q∈r p->F p q->∃k,Rk r z a b k p q):2*sg r n (λp q=>iv (F p q))<=3*sg r n (λp q=>iv (z p q))+6:=by
 have mem:∀{k p q},Rk r z a b k p q->q∈r p:=λh=>by
  induction h with
  | base=>exact Q
  | rot _ ha _=>exact(B2 (G.tri _ _ _ ha)).1
  | cross _ D _ _=>exact G.sym D
 have rt:∀{k p q},Rk r z a b k p q->Rk r z a b k q (th r p q):=λh=>h.rot (G.th (mem h))
 let M:=λk p q=>Rk r z a b k p q/\∀j,j<k->¬Rk r z a b j p q
 have Y:∀{k p q},M k p q->M k q (th r p q):=λ{k p q} h=>⟨rt h.1,λj hj R=>h.2 j hj (by
  have m:=mem h.1
  have h1:=rt (rt R)
  rw[G.th_rot m,G.th_rot2 m]at h1;exact h1)⟩
 have J:∀{k j p q},M k p q->M j p q->k=j:=λ{k j p q} h1 X=>by
  rcases Nat.lt_trichotomy k j with z | z | z
  .exact absurd h1.1 (X.2 k z)
  .exact z
  .exact absurd X.1 (h1.2 j z)
 have U:∀{k p q},Rk r z a b k p q->∃j,j<=k/\M j p q:=λ{k p q} h=>by
  obtain⟨j,h1,X⟩:=bW1 (P:=λk=>Rk r z a b k p q) ⟨k,h⟩
  exact⟨j,Nat.le_of_not_lt λz=>X k z h,h1,X⟩
 let c:=λx y=>z x y/\∃k j,M k x y/\M j y x/\j<k
 let B:=λp q=>(p,q)∈[(a,b),(b,th r a b),(th r a b,a)]
 have last:∀{k p q},Rk r z a b k p q->B p q\/∃x y j,((x=p/\y=q)\/(x=q/\y=th r p q)\/(x=th r p q/\y=p))/\z x y/\Rk r z a b j y x/\j+1<=k:=λ{k p q} h=>by
  induction h with
  | base=>left;simp[B]
  | @rot k q x y h ha ih=>
   have m:=mem h
   have e:=G.th_un ha
   subst e;have t1:=G.th_rot m;rcases ih with ih | ⟨u,v,j,hs,R⟩
   .left
    simp  [B,Aa1,Ac2,or_false,Ck]at ih ⊢
    rcases ih with⟨rfl,rfl⟩ | ⟨rfl,rfl⟩ | ⟨rfl,rfl⟩
    .exact .inr (.inl ⟨rfl,rfl⟩)
    .exact .inr (.inr ⟨rfl,G.th_rot Q⟩)
    .exact .inl ⟨rfl,G.th_rot2 Q⟩
   .right
    refine⟨u,v,j,?_,R⟩;rw[t1];rcases hs with h | h | h
    .exact .inr (.inr h)
    .exact .inl h
    .exact .inr (.inl h)
  | @cross k p q h D R ih=>exact .inr ⟨q,p,k,.inl ⟨rfl,rfl⟩,zs _ _ R,h,Aa7 _⟩
 have one:∀p q,q∈r p->iv (F p q)<=((iv (c p q)+iv (c q (th r p q)))+iv (c (th r p q) p))+iv (B p q):=λp q D=>by
  by_cases hf:F p q
  .rw[L7 hf];obtain⟨k,hk⟩:=hF p q D hf;obtain⟨d,_,hd⟩:=U hk;rcases last hd.1 with h | ⟨x,y,j,hs,R,hj,hjd⟩
   .rw[L7 h];simp
   .obtain⟨j',hj',hn⟩:=U hj;have d1:=Y hd;have d2:=Y d1;rw[G.th_rot D]at d2;have ga:∀{x y},z x y->M d x y->M j' y x->iv (c x y)=1:=λ{x y} h1 X h3=>L7 ⟨h1,d,j',X,h3,cN6⟩
    rcases hs with⟨rfl,rfl⟩ | ⟨rfl,rfl⟩ | ⟨rfl,rfl⟩
    .rw[ga R hd hn];lia
    .rw[ga R d1 hn];lia
    .rw[ga R d2 hn];lia
  .rw[Q1 hf];simp
 have s1:=bB8 G one
 rw[u7 (λp q=>(iv (c p q)+iv (c q (th r p q)))+iv (c (th r p q) p)) (λp q=>iv (B p q)),u7 (λp q=>iv (c p q)+iv (c q (th r p q))) (λp q=>iv (c (th r p q) p)),u7 (λp q=>iv (c p q)) (λp q=>iv (c q (th r p q)))]at s1
 have e1:=cW3 G (λp q=>iv (c p q))
 have e2:sg r n (λp q=>iv (c (th r p q) p))<=sg r n (λp q=>iv (c p q)):=by
  have h:=cW3 G (λp q=>iv (c q (th r p q)))
  rw[e1]at h;refine Aq (bB8 G λp q D=>?_) (Nat.le_of_eq h)
  rw[G.th_rot D];exact Aa7 _
 have e3:sg r n (λp q=>iv (B p q))<=3:=dL8 G λp q _ h=>h
 have two:∀p q,q∈r p->iv (c p q)+iv (c q p)<=iv (z p q):=λp q _=>by
  by_cases h1:c p q
  .have X:¬c q p:=λh=>by
    obtain⟨_,k,j,a1,a2,a3⟩:=h1;obtain⟨_,k',j',b1,b2,b3⟩:=h
    have:=J a1 b2
    have:=J a2 b1
    lia
   rw[L7 h1,Q1 X,L7 h1.1];decide
  .by_cases X:c q p
   .rw[Q1 h1,L7 X,L7 (zs _ _ X.1)];decide
   .rw[Q1 h1,Q1 X];simp
 have s2:=bB8 G two
 rw[u7 (λp q=>iv (c p q)) (λp q=>iv (c q p)),bP5 G (λp q=>iv (c p q))]at s2
 lia
inductive Dl (A:Nat->Nat->Prop)(I:Nat->Prop)(l:AD):Nat->Nat->Prop
 | zero {p w:Nat}:I p->A p w->w∈l->Dl A I l 0 p
 | succ {k p y:Nat}:I p->A p y->Dl A I l k y->Dl A I l (k+1) p
theorem Dl.inn (h:Dl A I l k p):I p:=by
 cases h with
 | zero h _ _=>exact h
 | succ h _ _=>exact h
theorem dA0 {c:Nat->Prop}:∀{t:AD} {h:Nat},(∀a b,lin (h::t) a b->(c a↔c b))->∀y∈h::t,(c h↔c y)
 | [],h,_,y,hy=>by rw[Ad8.mp hy]
 | x::t,h,H,y,hy=>by
  rcases Aa1.mp hy with rfl | hy
  .exact Iff.rfl
  .exact(H h x (.inl ⟨rfl,rfl⟩)).trans (dA0 (λa b z=>H a b (.inr z)) y hy)
theorem bB2 {α β:Type}{g:α->List β}:∀{L:List α},(∀p∈L,(g p).length<=c)->((L.map g).flatten).length<=c*L.length
 | [],_=>by simp
 | x::L,h=>by
  rw[Ac7,Cs,Ab7,Au,Nat.mul_succ]
  have:=bB2 λp hp=>h p (Ad4 _ hp)
  have:=h x Az
  lia
theorem Sl.i3 (G:Good n r)(H:Sl r l f s)(ho:f 0 2≠s)(j:Inn r l f s x):3<=x:=by
 have e:=G.out
 have c:=G.tri _ _ _ e
 have Y:=H.fa _ _ _ e
 have m:=H.fa _ _ _ c
 refine Nat.le_of_not_lt λz=>ho ?_
 rcases (show x=0\/x=1\/x=2 by lia) with rfl | rfl | rfl
 .exact j.2 2 (G.sym (B2 e).2)
 .rw[<- m];exact j.2 0 (B2 c).1
 .rw[<- m,<- Y];exact j.2 1 (B2 e).1
theorem DC.three (G:Good n r)(S:Rs r)(O:O3 n r A)(hb:aK5 n A)(ht:∀p q,A' p q->q∈r p)(D:DC A' l)(H:Sl r l f s)(ho:f 0 2≠s)(N1:∀v u,v∈l->A v u->f v u=s->f u v=s->False):l.length<=3:=by
 have lt:∀{x y},y∈r x->x<n:=λ{x y} hy=>by
  rcases De x n with z | z
  .exact z
  .rw[G.hi x z]at hy;cases hy
 have ne:∀x,x<n->∃y,y∈r x:=λx Q=>by
  have:=G.two x Q
  cases e:r x with
  | nil=>rw[e]at this;simp at this
  | cons y l=>exact⟨y,SS⟩
 let I:=Inn r l f s
 let IL:=(List.range n).filter λx=>decide (I x)
 have mI:∀x,x∈IL↔x<n/\I x:=λx=>by simp[IL]
 have nI:IL.Nodup:=Bz.sublist List.filter_sublist
 have rch:=λx Q ix=>Classical.byContradiction λhn=>by
  let Y:=(List.range n).filter λx=>decide (I x/\¬ ∃k,Dl A I l k x)
  have mY:∀x,x∈Y↔x<n/\I x/\¬ ∃k,Dl A I l k x:=λx=>by simp[Y]
  have nY:Y.Nodup:=Bz.sublist List.filter_sublist
  have big:=hb Y (List.ne_nil_of_mem ((mY x).mpr ⟨Q,ix,hn⟩)) nY λp hp=>⟨H.i3 G ho ((mY p).mp hp).2.1,((mY p).mp hp).1⟩
  have low:sm Y (λ_=>3)<=arN A Y:=aI2 λx Q=>by
   obtain⟨xn,ix,hn⟩:=(mY x).mp Q;obtain⟨a,b,c,n1,n2,n3,X⟩:=O.out x (H.i3 G ho ix) xn;have go:=λq h=>by
    have hl:q∉l:=λz=>hn ⟨0,.zero ix h z⟩
    exact(mY q).mpr ⟨lt (S.sym _ _ (O.tie _ _ h)),H.step S ix (O.tie _ _ h) hl,λ⟨k,hk⟩=>hn ⟨k+1,.succ ix h hk⟩⟩
   have qa:=(X a).mpr (.inl rfl)
   have qb:=(X b).mpr (.inr (.inl rfl))
   have qc:=(X c).mpr (.inr (.inr rfl))
   exact bX4 (go a qa) (go b qb) (go c qc) n1 n2 n3 (by rw[L7 qa];exact Aa7 1) (by rw[L7 qb];exact Aa7 1) (by rw[L7 qc];exact Aa7 1)
  rw[bB7]at low
  lia
 let M:=λp=>if h:∃k,Dl A I l k p/\∀j,j<k->¬Dl A I l j p then Classical.choose h else 0
 have rkm:∀{p k},Dl A I l k p->Dl A I l (M p) p/\M p<=k:=λ{p k} h=>by
  have ex:=bW1 (P:=λk=>Dl A I l k p) ⟨k,h⟩
  have e:M p=Classical.choose ex:=dif_pos ex
  have sp:=Classical.choose_spec ex
  rw[e];exact⟨sp.1,Nat.le_of_not_lt λz=>sp.2 k z h⟩
 have pex:∀p,p<n->I p->∃y,A p y/\(y∈l\/(I y/\M y<M p)):=λp hp B=>by
  obtain⟨k,hk⟩:=rch p hp B;obtain⟨h1,_⟩:=rkm hk;generalize M p=k' at h1;cases h1 with
  | zero _ ha hw=>exact⟨_,ha,.inl hw⟩
  | succ _ ha hd=>exact⟨_,ha,.inr ⟨hd.inn,by have:=(rkm hd).2;exact eG1⟩⟩
 let pa:=λp=>if h:∃y,A p y/\(y∈l\/(I y/\M y<M p)) then Classical.choose h else 0
 have pap:∀p,p<n->I p->A p (pa p)/\(pa p∈l\/(I (pa p)/\M (pa p)<M p)):=λp hp B=>by
  have ex:=pex p hp B
  have e:pa p=Classical.choose ex:=dif_pos ex
  rw[e];exact Classical.choose_spec ex
 let It:=λp q=>f p q=s/\f q p=s
 let R:=λp q=>(I p/\p<n)/\q=pa p
 let z:=λp q=>It p q/\¬R p q/\¬R q p
 have zs:∀p q,z p q->z q p:=λp q h=>⟨⟨h.1.2,h.1.1⟩,h.2.2,h.2.1⟩
 obtain⟨a,b,hab⟩:∃a b,adj l a b:=by
  cases e:l with
  | nil=>have:=D.h3;rw[e]at this;simp at this
  | cons x t=>exact⟨x,o9 SS⟩
 have tab:=ht _ _ (D.ar _ _ hab)
 let χ := λp q=>∃k,Rk r z a b k p q
 have χr:∀q x y,adj (r q) x y->(χ q x↔χ x y):=λq x y h=>by
  have U:=G.tri _ _ _ h
  have h3:=G.tri _ _ _ U
  exact⟨λ⟨k,w⟩=>⟨k,w.rot h⟩,λ⟨k,w⟩=>⟨k,(w.rot U).rot h3⟩⟩
 have χz:∀p q,q∈r p->z p q->(χ p q↔χ q p):=λp q X hz=>⟨λ⟨k,w⟩=>⟨k+1,w.cross X hz⟩,λ⟨k,w⟩=>⟨k+1,w.cross (G.sym X) (zs _ _ hz)⟩⟩
 have rkb:∀p,p<n->M p<=sm (List.range n) M:=λp hp=>by rw[bI8 (Ab5.mpr hp)];lia
 have claim:∀d p,p<n->I p->sm (List.range n) M-M p<d->(χ p (pa p)↔χ (pa p) p):=by
  intro d;induction d with
  | zero=>simp_all
  | succ d ih=>
   intro p hp B hd;obtain⟨hA,_⟩:=pap p hp B;have hm:=O.tie _ _ hA;have side:∀q,q∈r p->q≠pa p->(χ p q↔χ q p):=λq X hne=>by
    by_cases hz:z p q
    .exact χz p q X hz
    .have it:=H.at_in S B X
     by_cases U:R q p
     .obtain⟨⟨iq,qn⟩,e⟩:=U;have hr:M p<M q:=by
       rcases (pap q qn iq).2 with h | h
       .rw[<- e]at h;exact absurd h B.1
       .rw[<- e]at h;exact h.2
      have b1:=rkb q qn
      have:=ih q qn iq LL
      rw[<- e]at this;exact this.symm
     .exact absurd ⟨it,λh=>hne h.2,U⟩ hz
   have turn:∀x q,adj (r p) x q->(χ p x↔χ q p):=λx q h=>(χr _ _ _ h).trans (χr _ _ _ (G.tri _ _ _ h))
   obtain⟨u,w,e⟩:=Ad5 hm;have ndp:=G.nd p;have nd2:(pa p::(w++u)).Nodup:=by
    rw[e]at ndp;exact(Ca).nodup_iff.mp ndp
   have ch:=dA0 λx q hl=>by
    have ha:adj (r p) x q:=by
     rw[e];refine(V6 u (pa p::w) x q).mp ?_
     have:=aK2 (m:=[]) hl
     rw[Bf]at this;exact this
    have X:q≠pa p:=λz=>(Aa5.mp nd2).1 (z▸N8 hl)
    exact(turn x q ha).trans (side q (B2 ha).2 X).symm
   obtain⟨y,hy⟩:=aO7 hm;have ym:y∈pa p::(w++u):=by
    have:=(B2 hy).1
    rw[e]at this;simp  [Aa0,Aa1]at this ⊢;rcases this with h | h | h <;> simp[h]
   exact(ch y ym).trans (turn y (pa p) hy)
 have cl:=λp hp B=>claim (sm (List.range n) M+1) p hp B OO
 have cross:=λp q X it h=>by
  by_cases hz:z p q
  .exact(χz p q X hz).mp h
  .by_cases h1:R p q
   .obtain⟨⟨i1,i2⟩,e⟩:=h1;subst e;exact(cl p i2 i1).mp h
   .by_cases U:R q p
    .obtain⟨⟨i1,i2⟩,e⟩:=U;subst e;exact(cl q i2 i1).mpr h
    .exact absurd ⟨it,h1,U⟩ hz
 have conn:∀p q,q∈r p->f p q=s->∃k,Rk r z a b k p q:=λp q X hf=>by
  have rc:=(H.jordan G S ht D (.inl hab) X).mpr (hf.trans (H.fs _ _ hab).symm)
  have:f p q=s /\ χ p q:=by
   clear hf X
   induction rc with
   | base=>exact⟨H.fs _ _ hab,0,.base⟩
   | rot _ Q ih=>exact⟨by rw[<- H.fa _ _ _ Q];exact ih.1,(χr _ _ _ Q).mp ih.2⟩
   | cross _ X hn ih=>
    have e:=H.same S X hn
    have U:=e.symm.trans ih.1
    exact⟨U,cross _ _ X ⟨ih.1,U⟩ ih.2⟩
  exact this.2
 have big:=dE6 G tab zs conn
 have k1:sg r n (λp q=>iv (It p q))+l.length<=sg r n (λp q=>iv (f p q=s)):=by
  let nx:=λx=>if h:∃y,adj l x y then Classical.choose h else 0
  have hnx:∀x,x∈l->adj l x (nx x):=λx Q=>by
   have ex:=o9 Q
   have e:nx x=Classical.choose ex:=dif_pos ex
   rw[e];exact Classical.choose_spec ex
  have h1:(l.map λx=>(x,nx x)).length<=sg r n (λp q=>iv (f p q=s/\f q p≠s)):=bQ1 G (Ae0.mpr (D.nd.imp λh e=>h (congrArg Prod.fst e))) λx Q=>by
   obtain⟨y,hy,rfl⟩:=Aa8.mp Q
   have:=hnx y hy
   exact⟨ht _ _ (D.ar _ _ this),H.fs _ _ this,H.ne S ht D this⟩
  rw[Aa3]at h1;have U:sg r n (λp q=>iv (It p q)+iv (f p q=s/\f q p≠s))<=sg r n (λp q=>iv (f p q=s)):=bB8 G λp q _=>by
   by_cases J:f p q=s
   .by_cases F:f q p=s
    .rw[L7 J,L7 ⟨J,F⟩,Q1 λh=>h.2 F];exact Aa7 _
    .rw[L7 J,Q1 λh=>F h.2,L7 ⟨J,F⟩];exact Aa7 _
   .rw[Q1 λh=>J h.1,Q1 λh=>J h.1];exact Br _
  rw[u7 (λp q=>iv (It p q)) (λp q=>iv (f p q=s/\f q p≠s))]at U
  lia
 have k2:sg r n (λp q=>iv (z p q))+2*IL.length<=sg r n (λp q=>iv (It p q)):=by
  have h1:(IL.map λx=>(x,pa x)).length<=sg r n (λp q=>iv (R p q)):=bQ1 G (Ae0.mpr (nI.imp λh e=>h (congrArg Prod.fst e))) λx Q=>by
   obtain⟨y,hy,rfl⟩:=Aa8.mp Q;obtain⟨h1,U⟩:=(mI y).mp hy;exact⟨O.tie _ _ (pap y h1 U).1,⟨U,h1⟩,rfl⟩
  rw[Aa3]at h1;have sw:=bP5 G (λp q=>iv (R p q))
  have U:sg r n (λp q=>(iv (z p q)+iv (R p q))+iv (R q p))<=sg r n (λp q=>iv (It p q)):=bB8 G λp q X=>by
   by_cases J:R p q
   .have it:=H.at_in S J.1.1 X
    have F:¬R q p:=λh=>by
     have a1:=(pap p J.1.2 J.1.1).1
     have a2:=(pap q h.1.2 h.1.1).1
     rw[<- J.2]at a1;rw[<- h.2]at a2;exact O.anti _ _ a1 a2
    rw[Q1 λh:z p q=>h.2.1 J,L7 J,Q1 F,L7 it];exact Aa7 _
   .by_cases F:R q p
    .have it:=H.at_in S F.1.1 (G.sym X)
     have it:It p q:=⟨it.2,it.1⟩
     rw[Q1 λh:z p q=>h.2.2 F,Q1 J,L7 F,L7 it];exact Aa7 _
    .by_cases c3:It p q
     .rw[L7 ⟨c3,J,F⟩,Q1 J,Q1 F,L7 c3];exact Aa7 _
     .rw[Q1 λh:z p q=>c3 h.1,Q1 J,Q1 F];exact Br _
  rw[u7 (λp q=>iv (z p q)+iv (R p q)) (λp q=>iv (R q p)),u7 (λp q=>iv (z p q)) (λp q=>iv (R p q)),sw]at U
  omega
 have k3:sg r n (λp q=>iv (It p q/\A p q))<=3*IL.length:=by
  refine Aq (dL8 G (L:=(IL.map λp=>((r p).filter λq=>decide (A p q)).map λq=>(p,q)).flatten) λp q X h=>?_) (bB2 λp hp=>?_)
  .have hl:=λhl=>N1 p q hl h.2 h.1.1 h.1.2
   have B:=H.inn hl X h.1.1
   exact List.mem_flatten.mpr ⟨_,Aa8.mpr ⟨p,(mI p).mpr ⟨lt X,B⟩,rfl⟩,Aa8.mpr ⟨q,Ah.mpr ⟨X,Am h.2⟩,rfl⟩⟩
  .obtain⟨pn,B⟩:=(mI p).mp hp;obtain⟨x,y,w,_,_,_,X⟩:=O.out p (H.i3 G ho B) pn;rw[Aa3];exact p5 ((G.nd p).sublist List.filter_sublist) (m:=[x,y,w]) λq h=>by
    have:=(X q).mp (Ap (Ah.mp h).2)
    rcases this with rfl | rfl | rfl <;> simp
 have k4:sg r n (λp q=>iv (It p q))<=sg r n (λp q=>iv (It p q/\A p q))+sg r n (λp q=>iv (It p q/\A p q)):=by
  have sw:=bP5 G (λp q=>iv (It p q/\A p q))
  have U:sg r n (λp q=>iv (It p q))<=sg r n (λp q=>iv (It p q/\A p q)+iv (It q p/\A q p)):=bB8 G λp q X=>by
   by_cases it:It p q
   .have h3:3<=p\/3<=q:=Classical.byContradiction λhn=>by
     have a1:=G.out
     have a2:=G.tri _ _ _ a1
     have e1:=H.fa _ _ _ a1
     have e2:=H.fa _ _ _ a2
     have sf:=S.self p
     have:p≠q:=λz=>sf (z▸X)
     have out:∀x y,It x y->¬((x=0/\y=2)\/(x=1/\y=0)\/(x=2/\y=1)):=λx y h w=>by
      rcases w with⟨rfl,rfl⟩ | ⟨rfl,rfl⟩ | ⟨rfl,rfl⟩
      .exact ho h.1
      .exact ho (e2.symm.trans h.1)
      .exact ho (e2.symm.trans (e1.symm.trans h.1))
     have o1:=out p q it
     have o2:=out q p ⟨it.2,it.1⟩
     lia
    rcases O.tot p q X h3 with h | h
    .rw[L7 it,L7 ⟨it,h⟩];lia
    .rw[L7 it,L7 (P:=It q p/\A q p) ⟨⟨it.2,it.1⟩,h⟩];lia
   .rw[Q1 it];lia
  rw[u7 (λp q=>iv (It p q/\A p q)) (λp q=>iv (It q p/\A q p)),sw]at U
  exact U
 have big:=big
 omega
end
end TT
namespace TT
section
variable {n:Nat}{r:Nat->AD}{u v:Nat->Nat->Bool}{a b c:Nat}{sh:Nat->Nat->Prop}
theorem bQ7 (G:Good n r)(S:Rs r)(j:b∈r a)(U:c∈r b)(J:a∈r c)
  (h1:∀p q,q∈r p->((p=a/\q=b)\/(p=b/\q=c)\/(p=c/\q=a))->u p q=true/\v p q=false)
  (h2:∀p q,q∈r p->((q=a/\p=b)\/(q=b/\p=c)\/(q=c/\p=a))->u p q=false/\v p q=true)
  (h3:∀p q,q∈r p->¬((p=a/\q=b)\/(p=b/\q=c)\/(p=c/\q=a))->¬((q=a/\p=b)\/(q=b/\p=c)\/(q=c/\p=a))->u p q=v p q)
  (hs:∀p q,q∈r p->(sh p q↔(p∈[a,b,c]/\q∈[a,b,c]))) :
  ∃(H:Nat->Nat->Int) (e:Int),(e=1\/e = -1)/\Po r u v H/\(∀p q,H p q=0\/H p q=e)/\(∀p q,q∈r p->(H p q=0↔Rc r sh 0 2 p q))/\(e = -1↔H a b=0):=by
 obtain⟨H,e,he,po,hv⟩:=dF8 G S j U J h1 h2 h3;have Q:a≠b:=λe=>G.self b (by rw[e]at j;exact j)
 have F:b≠c:=λe=>G.self c (by rw[e]at U;exact U)
 have B:a≠c:=λe=>G.self c (by rw[e]at J;exact J)
 have nd:[a,b,c].Nodup:=by simp[Q,F,B]
 have R:=(B2 G.outs.1).1
 have m:∀{x y p q:Nat},Rc r sh x y p q->H p q=H x y:=λ{x y p q} h=>by
  induction h with
  | base=>rfl
  | rot _ ha ih=>rw[<- ih];exact(po.fa _ _ _ ha).symm
  | @cross p q _ Y hn ih=>
   have X:=po.st p q Y
   have hne:p≠q:=λe=>G.self p (by rw[<- e]at Y;exact Y)
   have M:=h3 p q Y (λz=>hn ((hs p q Y).mpr (by
    rcases z with⟨rfl,rfl⟩ | ⟨rfl,rfl⟩ | ⟨rfl,rfl⟩ <;> simp))) (λz=>hn ((hs p q Y).mpr (by
    rcases z with⟨rfl,rfl⟩ | ⟨rfl,rfl⟩ | ⟨rfl,rfl⟩ <;> simp)))
   unfold rsn at X;rw[M]at X;rw[X,<- ih];simp
 have C:Cy r (gi [a,b,c]) ([a,b,c].length-1):=Cy.ofList nd SS λx y h=>by
  rcases (bR6 Q F B).mp h with⟨rfl,rfl⟩ | ⟨rfl,rfl⟩ | ⟨rfl,rfl⟩
  .exact j
  .exact U
  .exact J
 obtain⟨f,s,D⟩:=C.sd S;have hz:∀p q,q∈r p->(sh p q↔zc (gi [a,b,c]) ([a,b,c].length-1) p q=true):=λp q h=>by
  have hne:p≠q:=λe=>G.self p (by rw[<- e]at h;exact h)
  rw[hs p q h,X5 nd SS,bR6 Q F B,bR6 Q F B]
  grind
 have cg:∀{x y p q:Nat},y∈r x->(Rc r sh x y p q↔Rc r (λp q=>zc (gi [a,b,c]) ([a,b,c].length-1) p q=true) x y p q):=λ{x y p q} h=>
  ⟨i7 S.sym S.tri h hz,i7 S.sym S.tri h λp q h=>(hz p q h).symm⟩
 have zab:=(X5 nd SS).mpr (.inl ((bR6 Q F B).mpr (.inl ⟨rfl,rfl⟩)))
 have zba:=(X5 nd SS).mpr (.inr ((bR6 Q F B).mpr (.inl ⟨rfl,rfl⟩)))
 have P:=G.sym j
 have sym:∀p q,zc (gi [a,b,c]) ([a,b,c].length-1) p q=true->zc (gi [a,b,c]) ([a,b,c].length-1) q p=true:=λp q h=>by
  rw[X5 nd SS]at h ⊢;exact h.symm
 have fx:xor (f a b) (f b a)=true:=by
  obtain⟨q,Y⟩:=aR3 j;have X:=D.fa _ _ _ Y;have M:=D.fb _ _ _ (S.tri _ _ _ Y);rw[X,M];exact zba
 have two:∀{p q:Nat},q∈r p->Rc r sh a b p q\/Rc r sh b a p q:=λ{p q} h=>by
  rw[cg j,cg P,jordan G S C D zab h,jordan G S C D zba h]
  revert fx
  cases f p q <;> cases f a b <;> cases f b a <;> simp
 have back:∀{x y p q:Nat},y∈r x->q∈r p->Rc r sh x y p q->Rc r sh p q x y:=λ{x y p q} h h' z=>(cg h').mpr (((cg h).mp z).back G sym)
 have st:=po.st a b j
 have r1:rsn u v a b=1:=by
  obtain⟨X,M⟩:=h1 a b j (.inl ⟨rfl,rfl⟩);unfold rsn;rw[X,M];rfl
 rw[r1]at st;have h0:=po.z;refine⟨H,e,he,po,hv,λp q Y=>⟨λhh=>?_,λz=>(m z).trans h0⟩,?_⟩
 .rcases two Y with x | x <;> rcases two R with y | y
  .exact(back j R y).trans x
  .have X:=m x;have M:=m y;lia
  .have X:=m x;have M:=m y;simp_all
  .exact(back P R y).trans x
 .have v1:=hv a b
  have v2:=hv b a
  lia
end
def sh3 (a b c p q:Nat):Prop:=p∈[a,b,c]/\q∈[a,b,c]
def Rn (A:Nat->Nat->Prop)(a b c:Nat):Prop:=A a b/\A b c/\A c a
def tnA (A:Nat->Nat->Prop)(a b c:Nat):Nat->Nat->Prop:=λx y=>(A x y/\¬(x=a/\y=b)/\¬(x=b/\y=c)/\¬(x=c/\y=a))\/(x=a/\y=c)\/(x=b/\y=a)\/(x=c/\y=b)
def Si (r:Nat->AD)(s:Bool)(a b c:Nat):Prop:=(s=true↔¬Rc r (sh3 a b c) 0 2 a b)
section
variable {n:Nat}{r:Nat->AD}{A A1 A2 e e':Nat->Nat->Prop}{s:Bool}{a b c a' b' c' p q:Nat}
theorem Rn.rot (h:Rn A a b c):Rn A b c a:=⟨h.2.1,h.2.2,h.1⟩
theorem sh3_rot:sh3 b c a p q↔sh3 a b c p q:=by unfold sh3;grind
theorem dJ9 (G:Good n r)(h:q∈r p):∀{x y:Nat},Rc r (sh3 b c a) p q x y↔Rc r (sh3 a b c) p q x y:=λ{x y}=>
 ⟨i7 (λ_ _ h=>G.sym h) G.tri h λ_ _ _=>sh3_rot,i7 (λ_ _ h=>G.sym h) G.tri h λ_ _ _=>sh3_rot.symm⟩
end
open Classical
section
variable {n:Nat}{r:Nat->AD}{A B:Nat->Nat->Prop}{l:AD}{f:Nat->Nat->Bool}{s:Bool}
def Lr (r:Nat->AD)(A:Nat->Nat->Prop):Prop:=∃a b c,Rn A a b c/\¬Rc r (sh3 a b c) 0 2 a b
theorem dL6 (G:Good n r){f f':Nat->Nat->Bool}(sub:∀p q,q∈r p->f' p q=s'->f p q=s)(j:∃p q,q∈r p/\f p q=s/\f' p q≠s'):sg r n (λp q=>iv (f' p q=s'))<sg r n (λp q=>iv (f p q=s)):=by
 obtain⟨x,y,h1,m,Y⟩:=j;have j:sg r n (λp q=>iv (f' p q=s')+iv (p=x/\q=y))<=sg r n (λp q=>iv (f p q=s)):=bB8 G λp q X=>by
  by_cases c:p=x/\q=y
  .obtain⟨rfl,rfl⟩:=c;rw[Q1 Y,L7 ⟨rfl,rfl⟩,L7 m];exact Aa7 _
  .rw[Q1 c];by_cases e:f' p q=s'
   .rw[L7 e,L7 (sub p q X e)];exact Aa7 _
   .rw[Q1 e];exact Br _
 rw[u7 (λp q=>iv (f' p q=s')) (λp q=>iv (p=x/\q=y))]at j
 have one:[(x,y)].length<=sg r n (λp q=>iv (p=x/\q=y)):=bQ1 G SS λz U=>by rw[Ad8.mp U];exact⟨h1,rfl,rfl⟩
 have one:1<=sg r n (λp q=>iv (p=x/\q=y)):=one
 lia
theorem DC.ring (G:Good n r)(S:Rs r)(O:O3 n r A)(U:aK5 n A)(D:DC A l)(H:Sl r l f s)(ho:f 0 2≠s):Lr r A:=by
 obtain⟨k,⟨l,f,s,D,H,ho,e⟩,hm⟩:=bW1 (P:=λk=>∃l f s,DC A l/\Sl r l f s/\f 0 2≠s/\sg r n (λp q=>iv (f p q=s))=k) ⟨_,l,f,s,D,H,ho,rfl⟩
 have h3:=D.three G S O U O.tie H ho λv u hv hA h1 h2=>D.no_in G S O U H ho (λl' f' s' J M m sub st=>hm _ (by rw[<- e];exact dL6 G sub st) ⟨l',f',s',J,M,m,rfl⟩) hv hA h1 h2
 have j:=D.h3
 match l,h3,j with
 | [a,b,c],_,_=>
  have X:adj [a,b,c] a b:=.inl ⟨rfl,rfl⟩
  have Q:adj [a,b,c] b c:=.inr (.inl ⟨rfl,rfl⟩)
  have F:adj [a,b,c] c a:=.inr (.inr (.inl ⟨rfl,rfl⟩))
  refine⟨a,b,c,⟨D.ar _ _ X,D.ar _ _ Q,D.ar _ _ F⟩,λR=>?_⟩
  have:∀{p q},Rc r (sh3 a b c) 0 2 p q->f p q≠s:=λR=>by
   induction R with
   | base=>exact ho
   | rot _ hx Y=>rw[<- H.fa _ _ _ hx];exact Y
   | cross _ hq hn Y=>
    rw[<- H.same S hq λz=>hn (by
     rcases z with z | z
     .exact B2 z
     .exact(B2 z).symm)]
    exact Y
  exact this R (H.fs _ _ X)
 | [],_,h=>simp at h
 | [_],_,h=>simp at h
 | [_,_],_,h=>simp at h
 | _::_::_::_::_,h,_=>simp at h
def Rr (r:Nat->AD)(A:Nat->Nat->Prop):Prop:=∃a b c,Rn A a b c/\Rc r (sh3 a b c) 0 2 a b
theorem DC.ringR (G:Good n r)(S:Rs r)(O:O3 n r A)(hb:aK5 n A)(D:DC (λp q=>A q p) l)(H:Sl r l f s)(ho:f 0 2≠s):Rr r A:=by
 have Y:∀p q,A q p->q∈r p:=λp q h=>S.sym _ _ (O.tie _ _ h)
 obtain⟨k,⟨l,f,s,D,H,ho,e⟩,hm⟩:=bW1 (P:=λk=>∃l f s,DC (λp q=>A q p) l/\Sl r l f s/\f 0 2≠s/\sg r n (λp q=>iv (f p q=s))=k) ⟨_,l,f,s,D,H,ho,rfl⟩
 have h3:=D.three G S O hb Y H ho λv u hv hA h1 j=>D.no_inR G S O hb H ho (λl' f' s' D' H' R sub st=>hm _ (by rw[<- e];exact dL6 G sub st) ⟨l',f',s',D',H',R,rfl⟩) hv hA h1 j
 have M:=D.h3
 match l,h3,M with
 | [a,b,c],_,_=>
  have X:adj [a,b,c] a b:=.inl ⟨rfl,rfl⟩
  have U:adj [a,b,c] b c:=.inr (.inl ⟨rfl,rfl⟩)
  have m:adj [a,b,c] c a:=.inr (.inr (.inl ⟨rfl,rfl⟩))
  have Q:=S.sym _ _ (Y _ _ (D.ar _ _ m))
  refine⟨a,c,b,⟨D.ar _ _ m,D.ar _ _ U,D.ar _ _ X⟩,?_⟩;have n1:=H.ne S Y D m;have e1:f 0 2=f a c:=by revert ho n1;cases f 0 2 <;> cases f a c <;> cases s <;> simp
  have rc:=(H.jordan G S Y D (.inr m) (G.sym (B2 G.out).2)).mpr e1
  have J:∀p q,q∈r p->((adj [a,b,c] p q\/adj [a,b,c] q p)↔sh3 a c b p q):=λp q hq=>by
   constructor
   .rintro (z | z)
    .obtain⟨h1,j⟩:=B2 z;simp  [Aa1,Ac2,or_false]at h1 j;exact⟨by simp  [Aa1,Ac2,or_false];lia,by simp  [Aa1,Ac2,or_false];lia⟩
    .obtain⟨h1,j⟩:=B2 z;simp  [Aa1,Ac2,or_false]at h1 j;exact⟨by simp  [Aa1,Ac2,or_false];lia,by simp  [Aa1,Ac2,or_false];lia⟩
   .rintro⟨h1,j⟩;have ne:p≠q:=λz=>S.self p (z▸hq)
    simp  [Aa1,Ac2,or_false]at h1 j
    rcases h1 with rfl | rfl | rfl <;> rcases j with rfl | rfl | rfl <;> first | exact absurd rfl ne | exact .inl X | exact .inl U | exact .inl m | exact .inr X | exact .inr U | exact .inr m
  have F:=i7 (λp q h=>G.sym h) G.tri Q J rc
  exact F.back G λp q h=>⟨h.2,h.1⟩
 | [],_,h=>simp at h
 | [_],_,h=>simp at h
 | [_,_],_,h=>simp at h
 | _::_::_::_::_,h,_=>simp at h
theorem bI0 (G:Good n r)(S:Rs r)(X:O3 n r A)(OB:O3 n r B)(h0:A p0 q0)(h1:¬B p0 q0):∃l,l.Nodup/\3<=l.length/\∀a b,adj l a b->A a b/\B b a:=by
 have lt:∀{x y},y∈r x->x<n:=λ{x y} j=>by
  rcases De x n with z | z
  .exact z
  .rw[G.hi x z]at j;cases j
 have df:=λ{p q} h F=>(OB.tot p q (X.tie _ _ h) (.inl (X.co _ _ h))).resolve_left F
 have go:∀x p,A x p/\B p x->∃q,A p q/\B q p:=by
  rintro x p ⟨h,F⟩;have p3:=OB.co _ _ F;have pn:=lt (OB.tie _ _ F);obtain⟨a,b,c,n1,n2,n3,D⟩:=X.out p p3 pn;obtain⟨a',b',c',_,_,_,hB⟩:=OB.out p p3 pn;refine Classical.byContradiction λhn=>?_
  have all:=λq hq=>Classical.byContradiction λhb=>hn ⟨q,hq,df hq hb⟩
  have xn:=X.anti _ _ h
  have M:[x,a,b,c].Nodup:=by
   have xa:x≠a:=λz=>xn ((D x).mpr (.inl z))
   have xb:x≠b:=λz=>xn ((D x).mpr (.inr (.inl z)))
   have xc:x≠c:=λz=>xn ((D x).mpr (.inr (.inr z)))
   simp[xa,xb,xc,n1,n2,n3]
  have:=p5 M (m:=[a',b',c']) λy j=>by
   have:B p y:=by
    simp  [Aa1,Ac2,or_false]at j
    rcases j with rfl | rfl | rfl | rfl
    .exact F
    .exact all _ ((D _).mpr (.inl rfl))
    .exact all _ ((D _).mpr (.inr (.inl rfl)))
    .exact all _ ((D _).mpr (.inr (.inr rfl)))
   have:=(hB y).mp this
   rcases this with rfl | rfl | rfl <;> simp
  simp at this
 have cyc:∀(P:AD) (x y:Nat),(P++[x]).Nodup->(∀a b,lin (P++[x]) a b->A a b/\B b a)->A x y/\B y x->y∈P++[x]->∃l,l.Nodup/\3<=l.length/\∀a b,adj l a b->A a b/\B b a:=λP x y M ar J j=>by
  obtain⟨P1,U,e⟩:=Ad5 j;have Y:=λa b h=>ar a b (by rw[e];exact(B9 y U a b P1).mpr (.inr h))
  obtain⟨Q,R,eq⟩:=(Ac5 (y::U)).resolve_left SS
  rw[List.concat_eq_append]at eq;have ex:R=x:=by
   have:=congrArg List.getLast? e
   rw[eq,<- Ad7]at this;simpa using this.symm
  subst ex;refine⟨y::U,?_,?_,λa b h=>?_⟩
  .rw[e]at M;exact(Aa4.mp M).2.1
  .match U,eq,Y with
   | [],eq,_=>
    have:Q=[]/\y=R:=by
     cases Q with
     | nil=>exact⟨rfl,by simpa using eq⟩
     | cons a Q=>have:=congrArg List.length eq;simp at this
    exact absurd (X.tie _ _ J.1) (by rw[this.2];exact S.self R)
   | [c],eq,Y=>
    have:c=R:=by
     have:=congrArg List.getLast? eq
     simpa using this
    subst this;exact absurd J.1 (X.anti _ _ (Y y c (.inl ⟨rfl,rfl⟩)).1)
   | _::_::_,_,_=>simp
  .have e3:y::U++(y::U).take 1=Q++R::[y]:=by
    show y::U++[y]=_
    rw[eq,Ad7];rfl
   unfold adj at h;rw[e3]at h;rcases (B9 R [y] a b Q).mp h with h | h
   .rw[<- eq]at h;exact Y a b h
   .obtain⟨rfl,rfl⟩:a=R/\b=y:=by simpa[lin]using h
    exact J
 have key:∀d (P:AD) (x:Nat),(P++[x]).Nodup->(∀y∈P++[x],y<n)->(∀a b,lin (P++[x]) a b->A a b/\B b a)->(∃q,A x q/\B q x)->n-(P++[x]).length<d->∃l,l.Nodup/\3<=l.length/\∀a b,adj l a b->A a b/\B b a:=by
  intro d;induction d with
  | zero=>omega
  | succ d ih=>
   rintro P x M hn ar ⟨y,j⟩ hd;by_cases hm:y∈P++[x]
   .exact cyc P x y M ar j hm
   .have yn:=lt (S.sym _ _ (X.tie _ _ j.1))
    have nd':(P++[x]++[y]).Nodup:=Aa4.mpr ⟨M,SS,λa ha b hb z=>hm (by rw[Ad8.mp hb]at z;exact z▸ha)⟩
    have hn':∀z∈P++[x]++[y],z<n:=λz hz=>by
     rcases Aa0.mp hz with h | h
     .exact hn z h
     .rw[Ad8.mp h];exact yn
    have hl:=p5 nd' λz hz=>Ab5.mpr (hn' z hz)
    rw[Cd]at hl;refine ih (P++[x]) y nd' hn' (λa b h=>?_) (go x y j) (by simp  [Ab7,Au,List.length_nil]at hd hl ⊢;lia)
    rw[Ad7]at h;rcases (B9 x [y] a b P).mp h with h | h
    .exact ar a b h
    .obtain⟨rfl,rfl⟩:a=x/\b=y:=by simpa[lin]using h
     exact j
 exact key (n+1) [] p0 SS (λy j=>(show y=p0 by simpa using j)▸lt (X.tie _ _ h0)) (λa b h=>absurd h (by simp[lin])) ⟨q0,h0,df h0 h1⟩ OO
theorem bJ5 (G:Good n r)(S:Rs r)(e:O3 n r A)(c:O3 n r B)(D:aK5 n A)(tB:aK5 n B)(M:¬Lr r A)(R:¬Lr r B):∀p q,A p q->B p q:=λp q h=>Classical.byContradiction λQ=>by
 obtain⟨l,X,Y,m⟩:=bI0 G S e c h Q;have j:DC A l:=⟨X,Y,λa b h=>(m a b h).1⟩
 have J:DC B l.reverse:=⟨(List.reverse_perm l).nodup_iff.mpr X,by rw[Ae2];exact Y,λa b h=>(m b a (V4 h)).2⟩
 obtain⟨f,s,H⟩:=j.sl S e.tie;by_cases ho:f 0 2=s
 .refine R (J.ring G S c tB (s := !s) ⟨H.fa,λp x q h=>?_,λa b h=>?_⟩ (by rw[ho];cases s <;> simp))
  .have U:∀{a b},adj l a b->adj l.reverse b a:=λ{a b} h=>V4 (by rw[List.reverse_reverse];exact h)
   rw[H.fb p x q h];refine Bc.mpr ⟨λz=>?_,λz=>?_⟩
   .rcases z with z | z
    .exact .inr (U z)
    .exact .inl (U z)
   .rcases z with z | z
    .exact .inr (V4 z)
    .exact .inl (V4 z)
  .have:=H.ne S e.tie j (V4 h)
   revert this;cases f a b <;> cases s <;> simp
 .exact M (j.ring G S e D H ho)
theorem bC9 (G:Good n r)(S:Rs r)(c:O3 n r A)(j:O3 n r B)(F:aK5 n A)(tB:aK5 n B)(R:¬Rr r A)(Q:¬Rr r B):∀p q,A p q->B p q:=λp q h=>Classical.byContradiction λD=>by
 obtain⟨l,U,Y,m⟩:=bI0 G S c j h D;have e:DC (λp q=>B q p) l:=⟨U,Y,λa b h=>(m a b h).2⟩
 have M:DC (λp q=>A q p) l.reverse:=⟨(List.reverse_perm l).nodup_iff.mpr U,by rw[Ae2];exact Y,λa b h=>(m b a (V4 h)).1⟩
 have X:∀p q,B q p->q∈r p:=λp q h=>S.sym _ _ (j.tie _ _ h)
 obtain⟨f,s,H⟩:=e.sl S X;by_cases ho:f 0 2=s
 .refine R (M.ringR G S c F (s := !s) ⟨H.fa,λp x q h=>?_,λa b h=>?_⟩ (by rw[ho];cases s <;> simp))
  .have J:∀{a b},adj l a b->adj l.reverse b a:=λ{a b} h=>V4 (by rw[List.reverse_reverse];exact h)
   rw[H.fb p x q h];refine Bc.mpr ⟨λz=>?_,λz=>?_⟩
   .rcases z with z | z
    .exact .inr (J z)
    .exact .inl (J z)
   .rcases z with z | z
    .exact .inr (V4 z)
    .exact .inl (V4 z)
  .have:=H.ne S X e (V4 h)
   revert this;cases f a b <;> cases s <;> simp
 .exact Q (e.ringR G S j tB H ho)
end
section
variable {n:Nat}{r:Nat->AD}{A B:Nat->Nat->Prop}
theorem cX7 (j:Y.Nodup)(x:Nat):sm Y (λq=>iv (x=q))<=iv (x∈Y):=by
 induction Y with
 | nil=>exact Br _
 | cons y Y c=>
  rw[Q6]
  have:=c (Aa5.mp j).2
  by_cases e:x=y
  .subst e;rw[Q1 (Aa5.mp j).1]at this;rw[L7 rfl,L7 Az]
   simp_all
  .rw[Q1 e];by_cases h:x∈Y
   .rw[L7 (Ad4 _ h)];rw[L7 h]at this;simp[*]
   .rw[Q1 h]at this;simp_all
theorem bN1 {P:Nat->Prop}(hp:p∈Y)(h:¬P p):sm Y (λq=>iv (P q))+1<=Y.length:=by
 rw[bI8 hp,Q1 h];have h1:sm (Y.erase p) (λq=>iv (P q))<=sm (Y.erase p) λ_=>1:=aI2 λq _=>by unfold iv;split <;> decide
 rw[bB7,Cq hp]at h1
 have:=Cz hp
 lia
theorem O3.same (S:Rs r)(s:O3 n r A)(m:O3 n r B)(U:∀p∈Y,3<=p):arN A Y=arN B Y:=by
 have j:∀{A:Nat->Nat->Prop},O3 n r A->arN A Y+arN A Y=sm Y λp=>sm Y λq=>iv (q∈r p):=λ{A} O=>by
  have sw:=dH0 Y Y λp q=>iv (A p q)
  have e:sm Y (λp=>sm Y λq=>iv (q∈r p))=sm Y λp=>(sm Y λq=>iv (A p q))+sm Y λq=>iv (A q p):=bX5 λp hp=>by
   rw[<- Y3];refine bX5 λq J=>?_
   by_cases h:q∈r p
   .rcases O.tot p q h (.inl (U p hp)) with a | a
    .rw[L7 h,L7 a,Q1 (O.anti _ _ a)]
    .rw[L7 h,L7 a,Q1 (O.anti _ _ a)]
   .have X:=λa=>h (O.tie _ _ a)
    rw[Q1 h,Q1 X];by_cases c:A q p
    .exact absurd (S.sym _ _ (O.tie _ _ c)) h
    .rw[Q1 c]
  rw[e,Y3];unfold arN;rw[sw]
 have a:=j s
 have b:=j m
 lia
theorem O3.thin (S:Rs r)(j:O3 n r A)(c:O3 n r B)(t:aK5 n B):aK5 n A:=λY h1 s e=>by
 rw[j.same S c λp hp=>(e p hp).1];exact t Y h1 s e
theorem O3.turn (S:Rs r)(O:O3 n r A)(h:Rn A a b c):O3 n r (tnA A a b c):=by
 obtain⟨R,Q,D⟩:=h;have U:=O.anti _ _ R;have J:=O.anti _ _ Q;have M:=O.anti _ _ D;have F:a≠b:=λe=>by rw[e]at R U;exact U R
 have P:b≠c:=λe=>by rw[e]at Q J;exact J Q
 have e3:c≠a:=λe=>by rw[e]at D M;exact M D
 have put:∀{p x y z w d:Nat},x≠y->y≠z->x≠z->(∀q,A p q↔q=x\/q=y\/q=z)->A p w->¬A p d->∃x y z,x≠y/\y≠z/\x≠z/\∀q,(A p q/\q≠w\/q=d)↔q=x\/q=y\/q=z:=λ{p x y z w d} h1 h2 h3 j hw hd=>by
  have dx:d≠x:=λe=>hd ((j d).mpr (.inl e))
  have dy:d≠y:=λe=>hd ((j d).mpr (.inr (.inl e)))
  have dz:d≠z:=λe=>hd ((j d).mpr (.inr (.inr e)))
  rcases (j w).mp hw with rfl | rfl | rfl
  .exact⟨d,y,z,dy,h2,dz,λq=>by rw[j];lia⟩
  .exact⟨x,d,z,dx.symm,dz,h3,λq=>by rw[j];lia⟩
  .exact⟨x,y,d,h1,dy.symm,dx.symm,λq=>by rw[j];lia⟩
 refine⟨λp q h=>?_,λp q h s=>?_,λp q j h=>?_,λp q h=>?_,λp h3 pn=>?_⟩
 .rcases h with h | ⟨rfl,rfl⟩ | ⟨rfl,rfl⟩ | ⟨rfl,rfl⟩
  .exact O.tie _ _ h.1
  .exact S.sym _ _ (O.tie _ _ D)
  .exact S.sym _ _ (O.tie _ _ R)
  .exact S.sym _ _ (O.tie _ _ Q)
 .rcases h with h | ⟨rfl,rfl⟩ | ⟨rfl,rfl⟩ | ⟨rfl,rfl⟩
  .rcases s with s | ⟨rfl,rfl⟩ | ⟨rfl,rfl⟩ | ⟨rfl,rfl⟩
   .exact O.anti _ _ h.1 s.1
   .exact h.2.2.2 ⟨rfl,rfl⟩
   .exact h.2.1 ⟨rfl,rfl⟩
   .exact h.2.2.1 ⟨rfl,rfl⟩
  .rcases s with s | ⟨e,_⟩ | ⟨e,e'⟩ | ⟨_,e'⟩
   .exact s.2.2.2 ⟨rfl,rfl⟩
   .exact e3 e
   .exact P e.symm
   .exact F e'
  .rcases s with s | ⟨e,e'⟩ | ⟨e,_⟩ | ⟨e,_⟩
   .exact s.2.1 ⟨rfl,rfl⟩
   .exact P e'
   .exact F e
   .exact e3 e.symm
  .rcases s with s | ⟨e,_⟩ | ⟨_,e'⟩ | ⟨e,_⟩
   .exact s.2.2.1 ⟨rfl,rfl⟩
   .exact F e.symm
   .exact e3 e'
   .exact P e
 .rcases O.tot p q j h with h | h
  .by_cases m:p=a/\q=b
   .exact .inr (.inr (.inr (.inl ⟨m.2,m.1⟩)))
   .by_cases Y:p=b/\q=c
    .exact .inr (.inr (.inr (.inr ⟨Y.2,Y.1⟩)))
    .by_cases X:p=c/\q=a
     .exact .inr (.inr (.inl ⟨X.2,X.1⟩))
     .exact .inl (.inl ⟨h,m,Y,X⟩)
  .by_cases m:q=a/\p=b
   .exact .inl (.inr (.inr (.inl ⟨m.2,m.1⟩)))
   .by_cases Y:q=b/\p=c
    .exact .inl (.inr (.inr (.inr ⟨Y.2,Y.1⟩)))
    .by_cases X:q=c/\p=a
     .exact .inl (.inr (.inl ⟨X.2,X.1⟩))
     .exact .inr (.inl ⟨h,m,Y,X⟩)
 .rcases h with h | ⟨rfl,rfl⟩ | ⟨rfl,rfl⟩ | ⟨rfl,rfl⟩
  .exact O.co _ _ h.1
  .exact O.co _ _ R
  .exact O.co _ _ Q
  .exact O.co _ _ D
 .obtain⟨x,y,z,n1,n2,n3,j⟩:=O.out p h3 pn;by_cases pa:p=a
  .subst pa;obtain⟨x,y,z,m1,m2,m3,hm⟩:=put n1 n2 n3 j R M;refine⟨x,y,z,m1,m2,m3,λq=>(Iff.trans ?_ (hm q))⟩
   constructor
   .rintro (h | ⟨_,e⟩ | ⟨e,_⟩ | ⟨e,_⟩)
    .exact .inl ⟨h.1,λe=>h.2.1 ⟨rfl,e⟩⟩
    .exact .inr e
    .exact absurd e F
    .exact absurd e.symm e3
   .rintro (⟨h,e⟩ | e)
    .exact .inl ⟨h,λw=>e w.2,λw=>F w.1,λw=>e3 w.1.symm⟩
    .exact .inr (.inl ⟨rfl,e⟩)
  .by_cases pb:p=b
   .subst pb;obtain⟨x,y,z,m1,m2,m3,hm⟩:=put n1 n2 n3 j Q U;refine⟨x,y,z,m1,m2,m3,λq=>(Iff.trans ?_ (hm q))⟩
    constructor
    .rintro (h | ⟨e,_⟩ | ⟨_,e⟩ | ⟨e,_⟩)
     .exact .inl ⟨h.1,λe=>h.2.2.1 ⟨rfl,e⟩⟩
     .exact absurd e pa
     .exact .inr e
     .exact absurd e P
    .rintro (⟨h,e⟩ | e)
     .exact .inl ⟨h,λw=>pa w.1,λw=>e w.2,λw=>P w.1⟩
     .exact .inr (.inr (.inl ⟨rfl,e⟩))
   .by_cases pc:p=c
    .subst pc;obtain⟨x,y,z,m1,m2,m3,hm⟩:=put n1 n2 n3 j D J;refine⟨x,y,z,m1,m2,m3,λq=>(Iff.trans ?_ (hm q))⟩
     constructor
     .rintro (h | ⟨e,_⟩ | ⟨e,_⟩ | ⟨_,e⟩)
      .exact .inl ⟨h.1,λe=>h.2.2.2 ⟨rfl,e⟩⟩
      .exact absurd e pa
      .exact absurd e pb
      .exact .inr e
     .rintro (⟨h,e⟩ | e)
      .exact .inl ⟨h,λw=>pa w.1,λw=>pb w.1,λw=>e w.2⟩
      .exact .inr (.inr (.inr ⟨rfl,e⟩))
    .refine⟨x,y,z,n1,n2,n3,λq=>(Iff.trans ?_ (j q))⟩
     constructor
     .rintro (h | ⟨e,_⟩ | ⟨e,_⟩ | ⟨e,_⟩)
      .exact h.1
      .exact absurd e pa
      .exact absurd e pb
      .exact absurd e pc
     .intro h;exact .inl ⟨h,λw=>pa w.1,λw=>pb w.1,λw=>pc w.1⟩
theorem O3.uniq (G:Good n r)(S:Rs r)(e:O3 n r A)(j:O3 n r B)(tB:aK5 n B)(s:Bool)(m:∀a b c,Rn A a b c->¬Si r s a b c)(Y:∀a b c,Rn B a b c->¬Si r s a b c):A=B:=by
 have X:=e.thin S j tB
 funext p q
 cases s with
 | true=>
  have no:∀{A:Nat->Nat->Prop},(∀a b c,Rn A a b c->¬Si r true a b c)->¬Lr r A:=λh ⟨a,b,c,h1,U⟩=>h a b c h1 ⟨λ_=>U,λ_=>rfl⟩
  exact propext ⟨bJ5 G S e j X tB (no m) (no Y) p q,bJ5 G S j e tB X (no Y) (no m) p q⟩
 | false=>
  have no:∀{A:Nat->Nat->Prop},(∀a b c,Rn A a b c->¬Si r false a b c)->¬Rr r A:=λh ⟨a,b,c,h1,U⟩=>h a b c h1 ⟨λz=>(by cases z),λz=>absurd U z⟩
  exact propext ⟨bC9 G S e j X tB (no m) (no Y) p q,bC9 G S j e tB X (no Y) (no m) p q⟩
theorem O3.ne (S:Rs r)(O:O3 n r A)(h:A p q):p≠q:=λe=>S.self p (by have:=O.tie _ _ h;rw[<- e]at this;exact this)
end
end TT
namespace TT
section
variable {F G f:Nat->Nat}{m:Nat}{d t:AA}
structure Lk (s:S):Prop where
 l0:∀q x,x∈s.i0 q->3<=x/\x<s.k+3/\s.o0 x=q
 l1:∀q x,x∈s.i1 q->3<=x/\x<s.k+3/\s.o1 x=q
 l2:∀q x,x∈s.i2 q↔3<=x/\x<s.k+3/\s.o2 x=q/\3<=q
theorem cD6 (R:Rws F G m):∀i,i<=m->Lk (gst F G i)
 | 0,_=>⟨λq x h=>(nomatch h),λq x h=>(nomatch h),λq x=>⟨λh=>(nomatch h),λ⟨h,e,_⟩=>by have e:x<0+3:=e;lia⟩⟩
 | i+1,hi=>by
  obtain⟨X,U,J⟩:=cD6 R i zq1;have j:=(P7 R i zq1).inv.bd;have lo:=(cA9 R (i:=i) AO).lo
  have c:=aD2 F G i
  have M:=cW9 F G i
  show Lk ((gst F G i).step (F i-pv F i) (G i-pv G i))
  generalize gst F G i=s at *;have Y:∀x,x∈(s.h1 (F i-pv F i)).take (G i-pv G i)->x∈s.path\/x∈s.heap:=λx z=>by
   have:=Bk z
   unfold S.h1 at this;grind
  unfold S.step;generalize (s.h1 (F i-pv F i)).take (G i-pv G i)=T at *;refine⟨λq x h=>?_,λq x h=>?_,λq x=>?_⟩ <;> simp only[put]at * <;> grind
theorem Bt.lo (B:Bt F G m f d t)(c:3<=q)(j:q<m+3):∃v,v<m+3/\3<=v/\f v=q:=by
 obtain⟨v,e,rfl⟩:=B.N.surj q j
 have:=B.N.lo SS e
 exact⟨v,e,LL,rfl⟩
theorem Bt.tie' (B:Bt F G m f d t)(J:3<=p)(hp:p<m+3)(Y:q∈trn d p):(∃c,c<3/\TT.og t c p=q)\/(3<=q/\q<m+3/\∃c,c<3/\TT.og t c q=p):=by
 obtain⟨v,U,v3,rfl⟩:=B.lo J hp;have L:=cD6 B.R m (Aa7 _);have M:=aD2 F G m;unfold trn at Y;rw[B.dr v U]at Y;obtain⟨w,X,rfl⟩:=Aa8.mp (begun_mem.mp Y);rw[O0 v3 XX]at X
 have lo:∀w,3<=w->w<m+3->3<=f w:=λw h j=>by have:=B.N.lo SS j;lia
 have o:=λc (s:c<3)=>B.og s v3 U
 have inn:∀c,c<3->3<=w->w<m+3->oc (gst F G m) c w=v->3<=f w/\f w<m+3/\∃c,c<3/\TT.og t c (f w)=f v:=λc s h j e=>⟨lo w h j,B.N.lt w j,c,s,by rw[B.og s h j,e]⟩
 simp  [Aa1,Aa0,Ds]at X
 rcases X with rfl | h | rfl | h | rfl | h
 .exact .inl ⟨0,DD,o 0 DD⟩
 .obtain⟨a,b,c,_⟩:=(L.l2 _ _).mp h;exact .inr (inn 2 DD a YY c)
 .exact .inl ⟨1,DD,o 1 DD⟩
 .obtain⟨a,b,c⟩:=L.l0 _ _ h;exact .inr (inn 0 DD a YY c)
 .exact .inl ⟨2,DD,o 2 DD⟩
 .obtain⟨a,b,c⟩:=L.l1 _ _ h;exact .inr (inn 1 DD a YY c)
theorem Bt.up (B:Bt F G m f d t)(c:3<=v)(s:v<m+3):(gst F G m).o0 v<v/\(gst F G m).o1 v<v/\((gst F G m).o2 v=2\/v<(gst F G m).o2 v/\(gst F G m).o2 v<m+3):=by
 obtain⟨i,rfl⟩:∃i,v=i+3:=⟨v-3,XX⟩
 have j:=cA9 B.R (i:=i) YY
 obtain⟨x,r,e,Y,_⟩:=j.px;obtain⟨y,U,e',X,_⟩:=j.hy;rw[dL4 F G i m YY,dL0 F G i m YY,dZ6,e,show hp F G (i+3)=y::U from e']
 exact⟨Y,X,cW9 F G m _ c s⟩
theorem Bt.outs (B:Bt F G m f d t)(Q:3<=p)(hp:p<m+3):(TT.og t 0 p≠TT.og t 1 p/\TT.og t 0 p≠TT.og t 2 p/\TT.og t 1 p≠TT.og t 2 p)/\∀i j,i<3->j<3->3<=TT.og t i p->TT.og t i p<m+3->TT.og t j (TT.og t i p)≠p:=by
 have L:=cD6 B.R m (Aa7 _)
 have I:=(P7 B.R m (Aa7 _)).inv
 have hk:=aD2 F G m
 have Y:∀{v c},3<=v->v<m+3->c<2->oc (gst F G m) c v∉(gst F G m).i2 v/\(gst F G m).o0 v≠(gst F G m).o1 v/\(gst F G m).o0 v≠(gst F G m).o2 v/\(gst F G m).o1 v≠(gst F G m).o2 v:=λ{v c} h U J=>by
  have nd:=I.nd v
  rw[O0 h XX]at nd
  rcases (show c=0\/c=1 by lia) with rfl | rfl <;> simp  [oc] <;> grind
 obtain⟨v,s,v3,rfl⟩:=B.lo Q hp;have lt:∀{v c},c<3->3<=v->v<m+3->oc (gst F G m) c v<m+3:=λ{v c} J h U=>by
  have:=I.lt v _ (cP1 J h XX);simp_all
 have fi:∀{a b},a<3->b<3->f (oc (gst F G m) a v)=f (oc (gst F G m) b v)->oc (gst F G m) a v=oc (gst F G m) b v:=λD P e=>B.N.inj _ _ (lt D v3 s) (lt P v3 s) e
 obtain⟨_,n1,n2,n3⟩:=Y (c:=0) v3 s DD
 rw[B.og DD v3 s,B.og DD v3 s,B.og DD v3 s]
 refine⟨⟨λe=>n1 (fi DD DD e),λe=>n2 (fi DD DD e),λe=>n3 (fi DD DD e)⟩,λi j hi M h U e=>?_⟩
 rw[B.og hi v3 s]at h e;have w3:3<=oc (gst F G m) i v:=by have:=B.N.lo SS (lt hi v3 s);lia
 have X:=lt hi v3 s
 rw[B.og M w3 X]at e;have e:=B.N.inj _ _ (lt M w3 X) s e;have u1:=B.up v3 s;have u2:=B.up w3 X;generalize hw:oc (gst F G m) i v=w at *;have l2:=L.l2;have k1 := @Y v i v3 s;have k2 := @Y w j w3 X;rcases (show i=0\/i=1\/i=2 by lia) with rfl | rfl | rfl <;> rcases (show j=0\/j=1\/j=2 by lia) with rfl | rfl | rfl <;> simp  [oc]at * <;> grind
theorem Bt.thin (B:Bt F G m f d t)(hA:∀p q,A p q->∃c,c<3/\TT.og t c p=q):aK5 (m+3) A:=λY Q nd M=>by
 have j:∀c,c<3->∃p∈Y,¬TT.og t c p∈Y:=λc hc=>Classical.byContradiction λR=>by
  have R:=λp hp=>Classical.byContradiction λz=>R ⟨p,hp,z⟩
  have key:∀n v,v<m+3->(if c=2 then m+3-v else v)<=n->f v∉Y:=λn=>by
   induction n with
   | zero=>intro v X h s;have:=B.N.lo SS X;have:=M _ s;split at h <;> lia
   | succ n D=>
    intro v X h s;have h1:=B.N.lo SS X
    have v3:3<=v:=by have:=(M _ s).1;lia
    have U:=R _ s
    rw[B.og hc v3 X]at U;obtain⟨u0,u1,u2⟩:=B.up v3 X;have c2:=B.N.c2;have J:=(M _ U).1;rcases (show c=0\/c=1\/c=2 by lia) with rfl | rfl | rfl
    .have h:v<=n+1:=h
     exact D _ (show(gst F G m).o0 v<_ by exact aH5) (show(gst F G m).o0 v<=n by lia) U
    .have h:v<=n+1:=h
     exact D _ (show(gst F G m).o1 v<_ by exact aH5) (show(gst F G m).o1 v<=n by lia) U
    .have h:m+3-v<=n+1:=h
     have J:3<=f ((gst F G m).o2 v):=J
     rcases u2 with e | ⟨e,e'⟩
     .rw[e]at J;simp_all
     .exact D _ e' (show m+3-(gst F G m).o2 v<=n by lia) U
  obtain⟨y,s⟩:=List.exists_mem_of_ne_nil Y Q;obtain⟨v,X,_,rfl⟩:=B.lo (M y s).1 (M y s).2;exact key _ v X (Aa7 _) s
 have one:arN A Y<=sm Y λp=>(iv (TT.og t 0 p∈Y)+iv (TT.og t 1 p∈Y))+iv (TT.og t 2 p∈Y):=aI2 λp hp=>by
  have h1:sm Y (λq=>iv (A p q))<=sm Y λq=>(iv (TT.og t 0 p=q)+iv (TT.og t 1 p=q))+iv (TT.og t 2 p=q):=aI2 λq _=>by
   by_cases h:A p q
   .obtain⟨m,U,e⟩:=hA _ _ h;rw[L7 h];rcases (show m=0\/m=1\/m=2 by lia) with rfl | rfl | rfl
    .rw[L7 e];lia
    .rw[L7 e];lia
    .rw[L7 e];simp
   .rw[Q1 h];simp
  rw[Y3,Y3]at h1;have a:=cX7 nd (TT.og t 0 p);have b:=cX7 nd (TT.og t 1 p);have c:=cX7 nd (TT.og t 2 p)
  lia
 rw[Y3,Y3]at one;obtain⟨p0,m0,h0⟩:=j 0 DD
 obtain⟨p1,m1,h1⟩:=j 1 DD
 obtain⟨p2,m2,J⟩:=j 2 DD
 have a:=bN1 (P:=λp=>TT.og t 0 p∈Y) m0 h0
 have b:=bN1 (P:=λp=>TT.og t 1 p∈Y) m1 h1
 have c:=bN1 (P:=λp=>TT.og t 2 p∈Y) m2 J
 lia
end
end TT
namespace PySem
open Sem (wp)
namespace F
end F
end PySem
namespace PySem
open Sem (wp)
end PySem
namespace LV
open PySem PySem.Spec PyProof.Rows L2
end LV
namespace L2
open PySem PySem.Spec PyProof.Rows
section
theorem dB0 (M:A.handled=none)(m:s.heap.IsTuple l (intItems xs))(Y:0<xs.size)
  (h:∀v h' tk,(intItems xs)[argBest (λi j=>decide (numAt xs i>numAt xs j)) (xs.size-1)]? = some v->(∀b o,s.heap.get? b=some o->h'.get? b=some o)->Q v {s with heap:=h',toks:=tk}):wpAny (model P w) A (call (.builtin "max") [.ref l]) Q E s:=by
 have c:l<s.heap.objs.size:=by obtain⟨_,e,_⟩:=m;exact Ab3 e
 refine call_max_walk (wpAny_pyIter_tuple m ?_);refine⟨_,_,_,_,_,_,_,rfl,Walks.tuple (A:=A.in1) M _ l (Ab9 c) (intItems xs),⟨⟨_,Ac3 _ rfl,rfl,rfl⟩,bV5 (b:=l) m λo e=>Aa6 _ e⟩,λb X=>?_,by simpa[intItems]using Y,CmpOf.ints_gt (numAt xs) (λ_ _=>intItems_at),λv h' tk J R=>?_⟩
 .rw[Dm];simp  [Aa1,Ac2,or_false]at X;rcases X with rfl | rfl
  .exact Nat.lt_succ_self _
  .exact Dh c
 .exact h v h' tk (by simpa[intItems]using J) λb o e=>R b o (λD=>by
   have U:b=s.heap.objs.size:=by simpa using D
   exact absurd (U▸Ab3 e) (Ad9 _)) (Aa6 _ e)
theorem bJ7 (K:Frag)(D:X.calm=true)(h:X.K=K:=by rfl):Q4 X (.builtin "max") (λxs H Q=>∃(p:Addr) (l:AF),xs=[.ref p]/\SqT K H p (l.map V.int)/\l≠[]/\∀M,M∈l->(∀a∈l,a<=M)->Q (.int M) H):=by
 subst h;intro aA s σ H xs us Q I r ⟨p,ns,e,P,m,q⟩;subst e;obtain⟨u,rfl,rx⟩:=U4 r;cases rx;obtain⟨its,rv,pl,_⟩:=I.tuple P;have hi:=LV.N9 rv;obtain⟨xs,e⟩:=hi.allInts.items;have c:ns=xs.toList.map (·.1):=by rw[<- hi.numsOf,<- nums_intItems,<- e]
 have Y:0<xs.size:=by
  have U:=Cv.mpr m;rw[c,Aa3,Bb]at U;exact U
 rw[e]at pl;refine dB0 (I.ok.hd D) pl Y λv h' tk hv B=>?_
 obtain⟨t,rfl⟩:=intItems_at hv;obtain⟨h1,R⟩:=argBest_gt (numAt xs) (xs.size-1);refine⟨.int _,H,I.kept B,⟨_,rfl⟩,q _ ?_ λa J=>?_⟩
 .rw[c,numAt_eq];exact getD_mem (by rw[Aa3,Bb];lia)
 .rw[c]at J;obtain⟨j,F,rfl⟩:=mem_getD J;rw[Aa3,Bb]at F;rw[<- numAt_eq];exact R j LL
end
end L2
namespace LV
open PySem PySem.Spec PyProof.Rows L2
section
variable {K:Frag}{ρ:List Sl}{m:Bool}{t ta tb:TE}{d d':PyData}{ds es:AG}
theorem cX4 {t:TA}(Y:A K false t ρ [tI l])(e:M∈l/\∀a∈l,a<=M):E K m (tCB (λxs H Q=>∃(p:Addr) (l:AF),xs=[.ref p]/\SqT K H p (l.map V.int)/\l≠[]/\∀M,M∈l->(∀a∈l,a<=M)->Q (.int M) H) t) ρ (.int M):=cM6 Y λH vs Q r q=>by
 cases r with
 | cons a b=>
  cases b
  obtain⟨p,rfl,s⟩:=bM0 a;refine⟨p,l,rfl,s,List.ne_nil_of_mem e.1,λj h1 c=>?_⟩
  have:=Int.le_antisymm (e.2 j h1) (c M e.1)
  rw[this];exact q _ λ_=>.int _
end
end LV
set_option maxHeartbeats 1000000
namespace K37
open PySem L2 LV PyProof.Rows
theorem T0:B8 ["_law_outs", "_law_pairs", "_law_v", "_law_place"] ["_law_outs"] (B3 l7):={}
def dO7 (ds:AG)(d:PyData):Prop:=∃(m:Nat) (dr tr:AA),Dw m dr tr/\ds=[tD tr]/\d=.tuple ((sp (arr tr)).map pD)
theorem aB9 (ps:List (Int×Int)):Fit (.tuple (ps.map pD)):=(bY0 λd e=>by obtain⟨x,_,rfl⟩:=Aa8.mp e;exact U7 x).fit
structure AI (dr:AA)(ps:List (Int×Int)):Prop where
 nd:ps.Nodup
 len:ps.length<=21
 lo:∀x∈ps,3<=x.1/\x.1<(dr.length:Int)/\0<=x.2/\x.2<(dr.length:Int)
 tie:∀x∈ps,td dr x.1 x.2=true
 anti:∀x∈ps,(x.2,x.1)∉ps
 out:∀b:Int,(ps.filter λx=>decide (x.1=b)).length<=3
theorem AI.perm (h:AI dr ps)(p:qs.Perm ps):AI dr qs:=
 ⟨p.nodup_iff.mpr h.nd,by rw[p.length_eq];exact h.len,λx e=>h.lo x (p.mem_iff.mp e),λx e=>h.tie x (p.mem_iff.mp e),λx e j=>h.anti x (p.mem_iff.mp e) (p.mem_iff.mp j),λb=>by rw[(p.filter _).length_eq];exact h.out b⟩
theorem dD4 (h:a.Perm b):R4 a=R4 b:=
 List.Perm.eq_of_pairwise (λx y _ _ h1 e=>aD9 x y h1 e) (Q0 a) (Q0 b) (((C8 a).trans h).trans (C8 b).symm)
theorem cF8 (h:a.Perm b):sp a=sp b:=by unfold sp;rw[dD4 (h.map toL)]
def rl1 (ps:List (Int×Int))(x:Int×Int):AC:=ps.filterMap λy=>if y.1=x.2/\(y.2,x.1)∈ps/\x.1<x.2/\x.1<y.2 then some [x.1,x.2,y.2] else none
def rgL (ps:List (Int×Int)):AC:=ga (λi=>rl1 ps (gp ps i)) ps.length
theorem aL6 {g g':Nat->List α}:∀{n:Nat},(∀i,i<n->(g i).Perm (g' i))->(ga g n).Perm (ga g' n)
 | 0,_=>by simp[ga]
 | n+1,h=>by rw[P8,P8];exact(aL6 λi hi=>h i zq2).append (h n SS)
theorem rl1_mem:v∈rl1 ps x↔∃c,v=[x.1,x.2,c]/\(x.2,c)∈ps/\(c,x.1)∈ps/\x.1<x.2/\x.1<c:=by
 unfold rl1;rw[List.mem_filterMap];constructor
 .rintro⟨y,hy,e⟩;split at e
  .rename_i h;obtain⟨h1,j,s,m⟩:=h;refine⟨y.2,(Ab4 e).symm,?_,j,s,m⟩;rw[<- h1];exact hy
  .cases e
 .rintro⟨c,rfl,h1,j,s,m⟩;exact⟨(x.2,c),h1,Ac ⟨rfl,j,s,m⟩⟩
theorem bZ8 (m:ps.Nodup)(x:Int×Int):(rl1 ps x).Nodup:=by
 unfold rl1;refine List.Pairwise.filterMap _ (λa b j u c v s e=>?_) m
 split at c
 .split at s
  .rename_i h1 h2;rw[<- Ab4 c,<- Ab4 s]at e;simp at e;exact j (Prod.ext (by rw[h1.1,h2.1]) e)
  .cases s
 .cases c
theorem dI6 (h:AI dr ps)(x:Int×Int):(rl1 ps x).length<=3:=by
 have e:rl1 ps x=(ps.filter λy=>decide (y.1=x.2)).filterMap λy=>if y.1=x.2/\(y.2,x.1)∈ps/\x.1<x.2/\x.1<y.2 then some [x.1,x.2,y.2] else none:=by
  unfold rl1;rw[List.filterMap_filter];refine L9 λy _=>?_
  by_cases h:y.1=x.2 <;> simp[h]
 rw[e];exact Aq (List.length_filterMap_le _ _) (h.out _)
theorem cA1 (h:AI dr ps)(hi:i<=ps.length):(ga (λi=>rl1 ps (gp ps i)) i).length<=3*i:=by
 induction i with
 | zero=>simp[ga]
 | succ i e=>rw[P8,Ab7];have:=e zq1;have:=dI6 h (gp ps i);lia
theorem aW5 (h:AI dr ps):(rgL ps).length<64:=by
 have:=cA1 h (Aa7 ps.length);have:=h.len;unfold rgL;lia
theorem rgL_mem:v∈rgL ps↔∃a b c,v=[a,b,c]/\(a,b)∈ps/\(b,c)∈ps/\(c,a)∈ps/\a<b/\a<c:=by
 unfold rgL;rw[ga_mem];constructor
 .rintro⟨i,hi,h⟩;obtain⟨c,e,h1,j,s,m⟩:=rl1_mem.mp h;exact⟨_,_,c,e,Aw (bD2 hi),h1,j,s,m⟩
 .rintro⟨a,b,c,rfl,h1,j,s,m,h5⟩;obtain⟨i,hi,e⟩:=List.mem_iff_getElem.mp h1;refine⟨i,hi,rl1_mem.mpr ?_⟩;have Y:gp ps i=(a,b):=by
   have:=bD2 hi
   rw[Aa2 hi,e]at this;exact(Ab4 this).symm
  rw[Y];exact⟨c,rfl,j,s,m,h5⟩
def sw (x:Int×Int):Int×Int:=(x.2,x.1)
def tw (ps W:List (Int×Int)):List (Int×Int):=ps.filter (λp=>decide (p∉W))++W.map sw
theorem dJ7 {ps W W':List (Int×Int)}(h:W.Perm W'):(tw ps W).Perm (tw ps W'):=by
 unfold tw
 have:(λp:Int×Int=>decide (p∉W))=λp=>decide (p∉W'):=by funext p;rw[Bc];rw[h.mem_iff]
 rw[this];exact(List.Perm.refl _).append (h.map sw)
theorem AI.ne (h:AI dr ps)(j:(p,q)∈ps):p≠q:=λe=>by
 subst e;exact h.anti _ j j
theorem dT6 (h:AI dr ps)(j:∀w∈wys x y z,w∈ps):(wys x y z).Nodup:=by
 have h1:=h.ne (j (z,x) (by simp[wys]))
 have c:=h.ne (j (x,y) (by simp[wys]))
 have s:=h.ne (j (y,z) (by simp[wys]))
 simp only[wys,Aa5,Aa1,Ac2,or_false,not_or,Ck,not_false_eq_true,List.nodup_nil,and_true];exact⟨⟨λe=>h1 e.1,λe=>h1 (absurd e.1.symm s)⟩,λe=>c e.1⟩
theorem dU3 (j:Dw m dr tr)(h:td dr p q=true)(s:0<=q/\q<(dr.length:Int)):td dr q p=true:=by
 unfold td at h ⊢;simp only[As,Ai]at h ⊢;obtain⟨⟨h1,X⟩,c⟩:=h;obtain⟨u,Y,e⟩:=Aa8.mp c;refine⟨s,Aa8.mpr ⟨p.toNat,?_,LL⟩⟩
 obtain⟨_,F,G,f,B⟩:=j
 have:=B.good.sym Y
 rw[show q.toNat=u by lia];exact this
theorem AI.turn (D:Dw m dr tr)(h:AI dr ps)(s:∀w∈wys x y z,w∈ps):AI dr (tw ps (wys x y z)):=by
 have Q:=dT6 h s
 have m1:=s (z,x) (by simp[wys])
 have m2:=s (x,y) (by simp[wys])
 have m3:=s (y,z) (by simp[wys])
 have c:∀{p q:Int},(p,q)∈(wys x y z).map sw->(q,p)∈wys x y z:=λ{p q} X=>by
  obtain⟨⟨u,v⟩,hu,e⟩:=Aa8.mp X;unfold sw at e;cases e;exact hu
 have j:∀{u:Int×Int},u∈ps.filter (λp=>decide (p∉wys x y z))↔u∈ps/\u∉wys x y z:=λ{u}=>by simp[Ah]
 have R:((wys x y z).map sw).Nodup:=by
  rw[Ac6,Ae0];refine Q.imp λ{a b} M e=>M ?_
  unfold sw at e;simp  [Ck]at e;exact Prod.ext e.2 e.1
 have Y:∀(b:Int),((wys x y z).filter (λu=>decide (u.1=b))).length+((ps.filter (λp=>decide (p∉wys x y z))).filter (λu=>decide (u.1=b))).length<=(ps.filter (λu=>decide (u.1=b))).length:=λb=>by
  rw[<- Ab7];refine bE2 (Aa4.mpr ⟨List.Pairwise.filter _ Q,List.Pairwise.filter _ (List.Pairwise.filter _ h.nd),λu hu v U e=>?_⟩) λu hu=>?_
  .subst e;exact(j.mp (Ah.mp U).1).2 (Ah.mp hu).1
  .rcases Aa0.mp hu with hu | hu
   .exact Ah.mpr ⟨s u (Ah.mp hu).1,(Ah.mp hu).2⟩
   .exact Ah.mpr ⟨(j.mp (Ah.mp hu).1).1,(Ah.mp hu).2⟩
 have J:∀b:Int,(((wys x y z).map sw).filter (λu=>decide (u.1=b))).length=((wys x y z).filter (λu=>decide (u.1=b))).length:=λb=>by
  unfold wys sw;simp  [Ac7,Cw,List.filter_cons,List.filter_nil,Ai];by_cases F:z=b <;> by_cases B:x=b <;> by_cases P:y=b <;> simp[F,B,P]
 refine⟨?_,?_,λu hu=>?_,λu hu=>?_,λu hu hn=>?_,λb=>?_⟩
 .refine Aa4.mpr ⟨List.Pairwise.filter _ h.nd,R,λu hu v U e=>?_⟩
  subst e;obtain⟨p,q⟩:=u;exact h.anti _ (s _ (c U)) (j.mp hu).1
 .unfold tw;rw[Ab7,Aa3]
  have:=bE2 (Aa4.mpr ⟨Q,List.Pairwise.filter _ h.nd,λu hu v U e=>by subst e;exact(j.mp U).2 hu⟩) λu hu=>(Aa0.mp hu).elim (s u) λhu=>(j.mp hu).1
  rw[Ab7]at this
  have:=h.len;lia
 .rcases Aa0.mp hu with hu | hu
  .exact h.lo u (j.mp hu).1
  .obtain⟨p,q⟩:=u;have X:=c hu;have l1:=h.lo _ m1;have l2:=h.lo _ m2;have l3:=h.lo _ m3;simp  [wys,Aa1,Ac2,or_false,Ck]at X;dsimp only at l1 l2 l3 ⊢
   lia
 .rcases Aa0.mp hu with hu | hu
  .exact h.tie u (j.mp hu).1
  .obtain⟨p,q⟩:=u;have X:=s _ (c hu);exact dU3 D (h.tie _ X) ⟨(h.lo _ X).2.2.1,(h.lo _ X).2.2.2⟩
 .obtain⟨p,q⟩:=u;rcases Aa0.mp hu with hu | hu
  .rcases Aa0.mp hn with hn | hn
   .exact h.anti _ (j.mp hu).1 (j.mp hn).1
   .exact(j.mp hu).2 (c hn)
  .rcases Aa0.mp hn with hn | hn
   .exact(j.mp hn).2 (c hu)
   .exact h.anti _ (s _ (c hu)) (s _ (c hn))
 .unfold tw;rw[Bn,Ab7,J b]
  have:=Y b;have:=h.out b;lia
theorem bA6 {α:Type}{g:Nat->List α}:∀{n:Nat},(∀i,i<n->(g i).Nodup)->(∀i j,i<j->j<n->∀x∈g i,x∉g j)->(ga g n).Nodup
 | 0,_,_=>by simp[ga]
 | n+1,h1,h2=>by
  rw[P8];refine Aa4.mpr ⟨bA6 (λi hi=>h1 i zq2) (λi j c Y=>h2 i j c zq2),h1 n SS,λx s y m e=>?_⟩
  subst e;obtain⟨i,hi,s⟩:=ga_mem.mp s;exact h2 i n hi SS x s m
theorem bC6 (e:Dw m dr tr)(s:v<m):ga1 tr v=[(3+(v:Int),(TT.og tr 0 (v+3):Int)),(3+(v:Int),(TT.og tr 1 (v+3):Int)),(3+(v:Int),(TT.og tr 2 (v+3):Int))]:=by
 obtain⟨r,h1,j⟩:=e.t3 s;unfold ga1 TT.og;rw[Ac0,show v+3-3=v by rfl,h1]
 match r,j with
 | [a,b,c],_=>rfl
theorem aM8 (s:Dw m dr tr)(h:x∈arr tr):∃v c,v<m/\c<3/\x=(((v+3:Nat):Int),(TT.og tr c (v+3):Int)):=by
 obtain⟨v,e,j⟩:=ga_mem.mp h;rw[s.tl]at e;rw[bC6 s e]at j;simp  [Aa1,Ac2,or_false]at j;rcases j with rfl | rfl | rfl
 .exact⟨v,0,e,DD,by rw[show((v+3:Nat):Int)=3+v by lia]⟩
 .exact⟨v,1,e,DD,by rw[show((v+3:Nat):Int)=3+v by lia]⟩
 .exact⟨v,2,e,DD,by rw[show((v+3:Nat):Int)=3+v by lia]⟩
theorem dV9 (Y:Dw m dr tr):AI dr (arr tr):=by
 have tl:=Y.tl
 have m7:=Y.m7
 have hl:=Y.len
 obtain⟨F,G,f,B⟩:=Y.bt;have fs:∀i,i<m->∀x∈ga1 tr i,x.1=3+i:=λi hi x s=>by
  rw[bC6 Y hi]at s;simp  [Aa1,Ac2,or_false]at s;rcases s with rfl | rfl | rfl <;> rfl
 refine⟨?_,?_,λx s=>?_,λx s=>?_,λx s hn=>?_,λb=>?_⟩
 .unfold arr;rw[tl];refine bA6 (λi hi=>?_) λi j hij hj x s hy=>?_
  .rw[bC6 Y hi];obtain⟨⟨h1,h2,U⟩,_⟩:=B.outs (p:=i+3) SS XX
   simp  [Aa5,Aa1,Ac2,or_false,not_or,Ck,not_false_eq_true,List.nodup_nil,and_true,true_and]
   lia
  .have h1:=fs i aH5 x s
   have h2:=fs j hj x hy
   lia
 .have:=bO5 Y (Aa7 _)
  unfold arr;lia
 .obtain⟨v,c,hv,X,rfl⟩:=aM8 Y s
  have:=(B.out_mem X (show 3<=v+3 by simp) XX).2
  rw[hl];refine⟨?_,?_,?_,?_⟩ <;> (dsimp only;lia)
 .obtain⟨v,c,hv,X,rfl⟩:=aM8 Y s
  have:=(B.out_mem X (show 3<=v+3 by simp) XX).1
  unfold td;simp only[As,Ai];exact⟨⟨LL,by rw[hl];simp[*]⟩,Aa8.mpr ⟨_,by rw[Ac8];exact this,rfl⟩⟩
 .obtain⟨v,c,hv,X,rfl⟩:=aM8 Y s;obtain⟨u,Q,hu,M,e⟩:=aM8 Y hn;simp only[Ck]at e;obtain⟨e1,e2⟩:=e;have e1:TT.og tr c (v+3)=u+3:=by lia
  have e2:v+3=TT.og tr Q (u+3):=by lia
  exact(B.outs (p:=v+3) SS eF6).2 c Q X M YY YY (by rw[e1];simp[*])
 .have R:∀n,n<=m->((ga (ga1 tr) n).filter λx=>decide (x.1=b)).length<=if b<3+n then 3 else 0:=by
   intro n;induction n with
   | zero=>intro _;simp[ga]
   | succ n J=>
    intro hn;have J:=J zq1;rw[P8,Bn,Ab7];have U:((ga1 tr n).filter λx=>decide (x.1=b)).length<=if 3+n=b then 3 else 0:=by
     by_cases e:3+n=b
     .rw[Ac e];refine Aq (List.length_filter_le _ _) ?_;rw[bC6 Y AO];exact Aa7 _
     .rw[Ab e,List.filter_eq_nil_iff.mpr λx s=>by rw[fs n AO x s];simpa using e]
      exact Aa7 _
    by_cases D:b<3+n
    .rw[Ac D]at J;rw[Ab LL]at U
     rw[Ac LL];lia
    .rw[Ab D]at J;by_cases P:3+n=b
     .rw[Ac P]at U;rw[Ac LL];lia
     .rw[Ab P]at U;lia
  have:=R m (Aa7 _)
  unfold arr;rw[tl];split at this <;> lia
theorem dN7 {l:AC}(h:∀v∈l,v.length=3):∀v∈l,v≠[]:=λv j e=>by have:=h v j;rw[e]at this;cases this
theorem cO6:∀v∈rgL ps,v.length=3:=λv e=>by obtain⟨a,b,c,rfl,_⟩:=rgL_mem.mp e;rfl
theorem cP0 (h:(ps.map pD)[i]? = some d):d=pD (gp ps i)/\i<ps.length:=by
 rw[Aa9]at h;obtain⟨x,e,rfl⟩:=Ay.mp h;have hi:=(Ab0.mp e).1;rw[bD2 hi]at e;exact⟨by rw[Ab4 e],hi⟩
theorem dD5 (h:j<ps.length):ps.take (j+1)=ps.take j++[gp ps j]:=by rw[Dc,bD2 h];rfl
def rB (ps:List (Int×Int))(x y:Int×Int):Option AF:=if y.2=x.1/\(x.2,y.1)∈ps/\x.1<x.2/\x.1<y.1 then some [x.1,x.2,y.1] else none
def rlB (ps:List (Int×Int))(x:Int×Int):AC:=ps.filterMap (rB ps x)
def rgB (ps:List (Int×Int)):AC:=ga (λi=>rlB ps (gp ps i)) ps.length
theorem dJ4:v∈rlB ps x↔∃c,v=[x.1,x.2,c]/\(x.2,c)∈ps/\(c,x.1)∈ps/\x.1<x.2/\x.1<c:=by
 unfold rlB rB;rw[List.mem_filterMap];constructor
 .rintro⟨y,hy,e⟩;split at e
  .rename_i h;obtain⟨h1,j,s,m⟩:=h;refine⟨y.1,(Ab4 e).symm,j,?_,s,m⟩;rw[<- h1];exact hy
  .cases e
 .rintro⟨c,rfl,h1,j,s,m⟩;exact⟨(c,x.1),j,Ac ⟨rfl,h1,s,m⟩⟩
theorem dT7 (m:ps.Nodup)(x:Int×Int):(rlB ps x).Nodup:=by
 unfold rlB rB;refine List.Pairwise.filterMap _ (λa b j u c v s e=>?_) m
 split at c
 .split at s
  .rename_i h1 h2;rw[<- Ab4 c,<- Ab4 s]at e;simp at e;exact j (Prod.ext e (by rw[h1.1,h2.1]))
  .cases s
 .cases c
theorem bS9 (e:ps.Nodup)(x:Int×Int):(rlB ps x).Perm (rl1 ps x):=(List.perm_ext_iff_of_nodup (dT7 e _) (bZ8 e _)).mpr λv=>by rw[dJ4,rl1_mem]
theorem bE4 (e:ps.Nodup):(rgB ps).Perm (rgL ps):=aL6 λi hi=>bS9 e _
theorem dW5 (h:AI dr ps)(hi:i<=ps.length):(ga (λi=>rlB ps (gp ps i)) i).length<=3*i:=by
 rw[(aL6 λj e=>bS9 h.nd _).length_eq]
 exact cA1 h hi
def eB3 (ds es:AG):Prop:=∃(dr:AA) (ps:List (Int×Int)),AI dr ps/\ds=[.tuple (ps.map pD)]/\es=(R4 (rgL ps)).map tI
theorem G5:B8 ["_law_arrows_here", "_law_found", "_law_p", "_law_q", "_law_r", "_law_back"] ["_law_arrows_here"] (B3 S0):={}
section
variable {P:Program}{w:World}{K:Frag}{mg:Str->Option Value}{base:Heap}{a:Ad}
theorem dV7 (T:Tx K mg a):J6 P w K mg base CX0 1 a.aI5 a.aI8 ["_law_outs"] (spV K dO7):=by
 refine T.aI4.F.ok T0 (S7 (by rintro ds d ⟨_,_,_,_,rfl,_⟩;rfl)) (λcdv A R s H vs Q E hr h=>?_)
 obtain⟨ds,S,d,hS,r,⟨m,dr,tr,U,rfl,rfl⟩,q⟩:=h;refine⟨_,(A6 (psS 1 T0 (C4 A4))
   (A6 (J5 Al rfl (K1 rfl T.J8 (A0 (B4 (aK1 K) RR T.O4 Av (A0 (pv 0) A4)) A4)) (pgN 2 T0) (A9 (J5 Al rfl (O9 (B5 (ixK K) (pv 0) (pv 2))) (pgN 3 T0) (A9 (E4 (G7 Ab1 Ag Af D3 (pv 1) (A0 (D0 (A0 (B7 H9 A8 (pv 2)) (A0 (pv 3) A4))) A4)))))))
   (A9 (C0 (J9 (cM9 K) RR T.N5 boot_tuple (A0 (B4 (L5 K) RR T.L4 boot_sorted (A0 (pv 1) A4)) A4)))))),G1 hS r ?_ q⟩
 have tl:=U.tl
 have m7:=U.m7
 have Y:((tr.map tN).length)=m:=by rw[Aa3,tl]
 refine B1 (E1 (E6 A7) ?_ (show 1<4 by decide))
 refine B1 (N2 (T4 (A3 (P4 (A3 (A5 rfl) A7)) A7) (by rw[Y];simp) (by rw[Y];lia)) (λi ρ=>∃J c,(J.nb=true/\c.nb=true)/\ρ=[vD tr,.own ((ga (ga1 tr) i).map pD),J,c]) ⟨.no,.no,⟨rfl,rfl⟩,rfl⟩ ?_ ?_)
 .rintro i d _ hd ⟨J,c,⟨b2,X⟩,rfl⟩;obtain⟨rfl,hi⟩:=T2 hd;rw[Y]at hi;have hi:i<m:=by assumption
  obtain⟨row,h1,h2⟩:=U.t3 hi;have M:=bO5 U (i:=i) LL
  have D:tr.getD i []=row:=by rw[Ac0,h1];rfl
  refine⟨_,B6,?_⟩;refine N2 (W3 (D8 (A5 rfl) (A5 rfl) rfl (M6 i rfl (by rw[Aa9,h1];rfl)))) (λj ρ=>∃c,c.nb=true/\ρ=[vD tr,.own ((ga (ga1 tr) i++(ga1 tr i).take j).map pD),vI i,c]) ⟨c,X,by simp only[List.take_zero,List.filter_nil,Cw,Bf];rfl⟩ ?_ ?_
  .rintro j d _ hd ⟨c,X,rfl⟩;unfold nI at hd;rw[Aa9]at hd;obtain⟨x,B,rfl⟩:=Ay.mp hd;have hj:=(Ab0.mp B).1;have et:(ga1 tr i).take (j+1)=(ga1 tr i).take j++[(3+(i:Int),(x:Int))]:=by
    rw[Dc];unfold ga1;rw[Aa9,D,B];rfl
   have em:(ga (ga1 tr) i++(ga1 tr i).take (j+1)).map pD=(ga (ga1 tr) i++(ga1 tr i).take j).map pD++[pD (3+i,x)]:=by
    rw[et,<- Ad7,Ad2];rfl
   refine⟨_,B6,?_⟩;refine J4 rfl (G0 (A3 (L8 B0 (A5 rfl)) (A3 (A5 rfl) A7))) ?_ ⟨.val (.int x),rfl,?_⟩
   .rw[Aa3,Ab7,Ad1];unfold sizeLine;lia
   .rw[em];rfl
  .rintro _ ⟨c,X,rfl⟩;refine⟨.val (.int i),c,⟨rfl,X⟩,?_⟩;rw[P8]
   have:(ga1 tr i).take (nI row).length=ga1 tr i:=Dq (by unfold ga1;rw[Aa3,D,C9];exact Aa7 _)
   rw[this]
 rintro _ ⟨J,c,⟨b2,X⟩,rfl⟩;have e:(S6 0 ((tr.map tN).length:Int).toNat).length=tr.length:=by rw[N3,Y,tl];rfl
 rw[e];have M:=bO5 U (Aa7 _);exact K0 (V7 (A3 (EF.e' (m6 (ps:=arr tr) (A3 (G9 rfl) A7) (by unfold arr;lia))) A7) (T6 _)) rfl
theorem dM3 (T:Tx K mg a):J6 P w K mg base CX0 1 a.e6 a.a8 ["_law_arrows_here"] (spL K eB3):=by
 refine T.R9.F.ok G5 (bB0 (by rintro ds d ⟨_,_,_,rfl,_⟩;rfl)) (λcdv A B s H vs Q E hr h=>?_)
 obtain⟨ds,S,es,hS,r,⟨dr,ps,U,rfl,rfl⟩,q⟩:=h;refine⟨_,(A6 (psS 1 G5 (C4 A4))
   (A6 (J5 Al rfl (O9 (pv 0)) (i9 rfl (E7 (pgN 2 G5) (E7 (pgN 3 G5) T3))) (A9 (J5 Al rfl (O9 (pv 0)) (i9 rfl (E7 (pgN 4 G5) (E7 (pgN 5 G5) T3))) (A9 (N0 (PW.pt (aJ6 (C3 aZ6 (pv 5) (pv 2) (E9 _)) (aJ6 (C3 (aJ2 K hr) (D0 (A0 (pv 3) (A0 (pv 4) A4))) (pv 0) rfl) (aJ6 (C3 aU3 (pv 2) (pv 3) (E9 _)) (aX6 (C3 aU3 (pv 2) (pv 4) (E9 _))))))) (A9 (E4 (G7 Ab1 Ag Af D3 (pv 1) (A0 (D0 (A0 (pv 2) (A0 (pv 3) (A0 (pv 4) A4)))) A4)))) F0)))))
   (A9 (C0 (B4 (L5 K) RR T.L4 boot_sorted (A0 (pv 1) A4)))))),Y9 hS r ?_ q⟩
 have hl:=U.len
 refine B1 (E1 (E6 A7) ?_ (show 1<6 by decide))
 refine B1 (N2 (W3 (A5 rfl)) (λi ρ=>∃J M Y X,(J.nb=true/\M.nb=true/\Y.nb=true/\X.nb=true)/\ρ=[.val (.tuple (ps.map pD)),.own ((ga (λi=>rlB ps (gp ps i)) i).map tI),J,M,Y,X]) ⟨.no,.no,.no,.no,⟨rfl,rfl,rfl,rfl⟩,rfl⟩ ?_ ?_)
 .rintro i d _ hd ⟨J,M,Y,X,⟨b2,b3,b4,b5⟩,rfl⟩;obtain⟨rfl,hi⟩:=cP0 hd;have hal:=dW5 U (i:=i) zq1;generalize hx:gp ps i=x;refine⟨_,aD5 (G4 B6 (G4 B6 Z4)),?_⟩;refine N2 (W3 (A5 rfl)) (λj ρ=>∃Y X,(Y.nb=true/\X.nb=true)/\ρ=[.val (.tuple (ps.map pD)),.own ((ga (λi=>rlB ps (gp ps i)) i++(ps.take j).filterMap (rB ps x)).map tI),vI x.1,vI x.2,Y,X]) ⟨Y,X,⟨b4,b5⟩,by simp only[List.take_zero,List.filterMap_nil,Bf];rfl⟩ ?_ ?_
  .rintro j d _ hd ⟨Y,X,⟨b4,b5⟩,rfl⟩;obtain⟨rfl,hj⟩:=cP0 hd;have D:=dD5 hj;generalize hy:gp ps j=y at D ⊢;have hil:((ps.take j).filterMap (rB ps x)).length<=21:=Aq (List.length_filterMap_le _ _) (by rw[Ad1];lia)
   refine⟨_,aD5 (G4 B6 (G4 B6 Z4)),?_⟩;show W K _ [.val (.tuple (ps.map pD)),.own ((ga (λi=>rlB ps (gp ps i)) i++(ps.take j).filterMap (rB ps x)).map tI),vI x.1,vI x.2,vI y.1,vI y.2] _
   generalize c:[Sl.val (.tuple (ps.map pD)),.own ((ga (λi=>rlB ps (gp ps i)) i++(ps.take j).filterMap (rB ps x)).map tI),vI x.1,vI x.2,vI y.1,vI y.2]=ρ'
   have e:=bC8 (K:=K) (m:=false) (ρ := ρ') (d:=pD (x.2,y.1)) (G0 (A3 (A5 (i:=3) (by rw[<- c];rfl)) (A3 (A5 (i:=4) (by rw[<- c];rfl)) A7))) (A5 (i:=0) (by rw[<- c];rfl)) rfl (U7 _).fit (aB9 ps)
   rw[aR6]at e;have tst:=aM5 (C2 (aA3 (A5 (i:=5) (by rw[<- c];rfl)) (A5 (i:=2) (by rw[<- c];rfl)))) λ_=>aM5 (C2 e) λ_=>aM5 (C2 (aB2 (g:=λi j=>decide (i<j)) (A5 (i:=2) (by rw[<- c];rfl)) (A5 (i:=3) (by rw[<- c];rfl)))) λ_=>C2 (aB2 (g:=λi j=>decide (i<j)) (A5 (i:=2) (by rw[<- c];rfl)) (A5 (i:=4) (by rw[<- c];rfl)))
   refine X2 tst (λh=>?_) (λh=>G6 ?_)
   .simp  [As,Ai]at h
    have R:(ps.take (j+1)).filterMap (rB ps x)=(ps.take j).filterMap (rB ps x)++[[x.1,x.2,y.1]]:=by
     rw[D,List.filterMap_append]
     congr 1
     simp[rB,h]
    subst c;refine J4 rfl (G0 (A3 (A5 rfl) (A3 (A5 rfl) (A3 (A5 rfl) A7)))) ?_ ⟨.val (.int y.1),vI y.2,⟨rfl,rfl⟩,?_⟩
    .rw[Aa3,Ab7];unfold sizeLine;lia
    .have em:(ga (λi=>rlB ps (gp ps i)) i++(ps.take (j+1)).filterMap (rB ps x)).map tI=(ga (λi=>rlB ps (gp ps i)) i++(ps.take j).filterMap (rB ps x)).map tI++[tI [x.1,x.2,y.1]]:=by
      rw[R,<- Ad7];rw[Ad2];rfl
     rw[em];rfl
   .have R:(ps.take (j+1)).filterMap (rB ps x)=(ps.take j).filterMap (rB ps x):=by
     rw[D,List.filterMap_append]
     have:rB ps x y=none:=by
      unfold rB;refine Ab λhh=>?_
      simp[hh]at h
     simp[this]
    subst c;exact⟨.val (.int y.1),vI y.2,⟨rfl,rfl⟩,by rw[R]⟩
  .rintro _ ⟨Y,X,⟨b4,b5⟩,rfl⟩;refine⟨.val (.int x.1),vI x.2,Y,X,⟨rfl,rfl,b4,b5⟩,?_⟩;rw[Aa3,Co,P8,hx,show rlB ps x=ps.filterMap (rB ps x) from rfl]
 rintro _ ⟨J,M,Y,X,_,rfl⟩;rw[Aa3];exact aE6 (p7 (ts:=rgB ps) (A3 (G9 rfl) A7) (dN7 λv hv=>cO6 v ((bE4 U.nd).mem_iff.mp hv)) (by rw[(bE4 U.nd).length_eq];exact aW5 U) ((C8 _).trans (bE4 U.nd).symm) (Q0 _)) rfl
end
set_option maxHeartbeats 1000000
theorem sc__law_ring_turned:B8 ["_law_arrows_here", "_law_ring", "_law_ways", "_law_made"] ["_law_arrows_here", "_law_ring"] (B3 Q9):={}
def fNi (G:List (Int×Int)):PyData->Option PyData
 | .tuple [.int p,.int q]=>if(p,q)∈G then none else some (tI [p,q])
 | _=>none
theorem cI0 (G ps:List (Int×Int)):(ps.map pD).filterMap (fNi G)=(ps.filter λp=>decide (p∉G)).map pD:=by
 rw[Ba,<- List.filterMap_eq_map,List.filterMap_filter];refine L9 λx _=>?_
 show(if(x.1,x.2)∈G then none else some (tI [x.1,x.2]))=_
 by_cases h:x∈G
 .have:=h
  rw[Ac this];simp[h]
 .have:=h
  rw[Ab this];simp[h];rfl
def fSw:PyData->Option PyData
 | .tuple [.int p,.int q]=>some (tI [q,p])
 | _=>none
theorem cL0 (ps:List (Int×Int)):(ps.map pD).filterMap fSw=(ps.map sw).map pD:=by
 rw[Ba,Ae3,<- List.filterMap_eq_map];exact L9 λx _=>rfl
def uA (ps:List (Int×Int))(p q:Nat):Bool:=decide (((p:Int),(q:Int))∈ps)
theorem dA6 (ps:List (Int×Int)):sp (sp ps)=sp ps:=cF8 (j7 ps)
theorem dP0 {ps W:List (Int×Int)}:(p,q)∈tw ps W↔((p,q)∈ps/\(p,q)∉W)\/(q,p)∈W:=by
 unfold tw;rw[Aa0,Ah,Aa8];constructor
 .rintro (h | ⟨⟨u,v⟩,h,e⟩)
  .exact .inl ⟨h.1,by simpa using h.2⟩
  .unfold sw at e;cases e;exact .inr h
 .rintro (h | h)
  .exact .inl ⟨h.1,by simpa using h.2⟩
  .exact .inr ⟨(q,p),h,rfl⟩
def dL7 (ds:AG)(d:PyData):Prop:=∃(ps:List (Int×Int)) (x y z:Int),ps.length<=60/\ds=[.tuple (ps.map pD),tI [x,y,z]]/\d=.tuple ((sp (tw ps (wys x y z))).map pD)
def w3 (x y z:Int):List (Int×Int):=[(x,y),(y,z),(z,x)]
theorem dG8 (x y z:Int):(w3 x y z).Perm (wys x y z):=(Ca (l₁:=[(x,y),(y,z)]))
def dN1 (ds:AG)(d:PyData):Prop:=∃(ps:List (Int×Int)) (x y z:Int),ps.length<=1000/\ds=[.tuple (ps.map pD),tI [x,y,z]]/\d=.bool ((wys x y z).all λw=>decide (w∈ps))
def fGo (ps:List (Int×Int)):PyData->Option PyData
 | .tuple [.int p,.int q]=>some (.bool (decide ((p,q)∈ps)))
 | _=>none
theorem dG3 (ps ws:List (Int×Int)):(ws.map pD).filterMap (fGo ps)=(ws.map λw=>decide (w∈ps)).map PyData.bool:=by
 rw[Ba,Ae3,<- List.filterMap_eq_map];exact L9 λx _=>rfl
theorem bX2:B8 ["arrows", "ring"] ["arrows", "ring"] (B3 aK3):={}
def rp1 (n:Nat)(ps:List (Int×Int))(x:Int×Int):AC:=if x.1<x.2 then((List.range ((n:Int)-(x.1+1)).toNat).map λ(i:Nat)=>x.1+1+(i:Int)).filterMap λc=>if(wys x.1 x.2 c).all λw=>decide (w∈ps) then some [x.1,x.2,c] else none else []
def rgP (n:Nat)(ps:List (Int×Int)):AC:=ga (λi=>rp1 n ps (gp ps i)) ps.length
theorem wys_all {ps:List (Int×Int)}:((wys x y z).all λw=>decide (w∈ps))=true↔(z,x)∈ps/\(x,y)∈ps/\(y,z)∈ps:=by
 simp[wys]
theorem cI8:v∈rp1 n ps x↔∃c,v=[x.1,x.2,c]/\x.1<x.2/\x.1<c/\c<(n:Int)/\(c,x.1)∈ps/\(x.1,x.2)∈ps/\(x.2,c)∈ps:=by
 unfold rp1;by_cases h:x.1<x.2
 .rw[Ac h,List.mem_filterMap];constructor
  .rintro⟨c,hc,e⟩;obtain⟨i,hi,rfl⟩:=Aa8.mp hc;have hi:=Ab5.mp hi;split at e
   .rename_i h';obtain⟨h1,s,j⟩:=wys_all.mp h';exact⟨_,(Ab4 e).symm,h,LL,OO,h1,s,j⟩
   .cases e
  .rintro⟨c,rfl,_,h1,s,j,h4,h5⟩;exact⟨c,Aa8.mpr ⟨(c-(x.1+1)).toNat,Ab5.mpr OO,LL⟩,Ac (wys_all.mpr ⟨j,h4,h5⟩)⟩
 .rw[Ab h];constructor
  .intro h';cases h'
  .rintro⟨c,_,h',_⟩;exact absurd h' h
theorem dA9 (x:Int×Int):(rp1 n ps x).Nodup:=by
 unfold rp1;split
 .refine List.Pairwise.filterMap (R:=λa b=>a≠b) _ (λa b j u c v s e=>?_) ?_
  .split at c
   .split at s
    .rw[<- Ab4 c,<- Ab4 s]at e;simp at e;exact j e
    .cases s
   .cases c
  .rw[Ae0];exact Bz.imp λh e=>h LL
 .exact List.nodup_nil
theorem bL5 (h:AI dr ps):(rgL ps).Perm (rgP dr.length ps):=by
 unfold rgL rgP;refine aL6 λi hi=>(List.perm_ext_iff_of_nodup (bZ8 h.nd _) (dA9 _)).mpr λv=>?_
 rw[rl1_mem,cI8];have j:=Aw (bD2 hi);constructor
 .rintro⟨c,e,h1,h2,h3,h4⟩;exact⟨c,e,h3,h4,(h.lo _ h2).2.1,h2,j,h1⟩
 .rintro⟨c,e,h1,h2,h3,h4,h5,h6⟩;exact⟨c,e,h6,h4,h1,h2⟩
theorem dD2 (h:AI dr ps):(rgP dr.length ps).length<64:=by rw[<- (bL5 h).length_eq];exact aW5 h
theorem sc_rings:B8 ["drawing", "arrows", "found", "a", "b"] ["drawing", "arrows"] (B3 bO9):={}
def dN3 (ds es:AG):Prop:=∃(dr:AA) (ps:List (Int×Int)),AI dr ps/\dr.length<=1000/\ds=[tD dr,.tuple (ps.map pD)]/\es=(R4 (rgL ps)).map tI
def fRg (n:Nat)(ps:List (Int×Int))(x:Int×Int):PyData->Option PyData
 | .int c=>if(wys x.1 x.2 c).all λw=>decide (w∈ps) then some (tI [x.1,x.2,c]) else none
 | _=>none
theorem sc_turned:B8 ["drawing", "arrows", "ring", "ways", "others"] ["drawing", "arrows", "ring"] (B3 aZ8):={}
theorem bD0:B8 ["drawing", "ring", "within"] ["drawing", "ring"] (B3 aS4):={}
def dN2 (ds:AG)(d:PyData):Prop:=∃(m:Nat) (dr tr:AA) (x y z:Nat),Dw m dr tr/\Tri dr x y z/\ds=[tD dr,tN [x,y,z]]/\d=.bool (decide (cL (TT.lnd (TT.trn dr) x y)∈cB2 m dr x y z))
section
variable {P:Program}{w:World}{K:Frag}{mg:Str->Option Value}{base:Heap}{a:Ad}
theorem dN0 (T:Tx K mg a):J6 P w K mg base CX0 1 a.Z5 a.Z1 ["_law_arrows_here", "_law_ring"] (spV K dL7):=by
 refine T.R6.F.ok sc__law_ring_turned (S7 (by rintro ds d ⟨_,_,_,_,_,rfl,_⟩;rfl)) (λB A c s H vs Q E hr h=>?_)
 obtain⟨ds,S,d,hS,r,⟨ps,x,y,z,hl,rfl,rfl⟩,q⟩:=h;refine⟨_,(A6 (aC3 (i:=2) sc__law_ring_turned.nd rfl (Or.inr rfl) (C4 (A0 (D0 (A0 (B5 (ixK K) (pv 1) A8) (A0 (B5 (ixK K) (pv 1) A8) A4))) (A0 (D0 (A0 (B5 (ixK K) (pv 1) A8) (A0 (B5 (ixK K) (pv 1) A8) A4))) (A0 (D0 (A0 (B5 (ixK K) (pv 1) A8) (A0 (B5 (ixK K) (pv 1) A8) A4))) A4)))))
   (A6 (v9 (i:=3) sc__law_ring_turned.nd rfl rfl (T:=["_law_arrow"]) (is:=[2]) rfl (.of rfl) (O9 (pv 0)) (G3 DD) λ_ _ _ _=>⟨(E2 (i:=0) (by decide +kernel:(["_law_arrow", "_law_ways"]:AJ).Nodup) rfl (Or.inl rfl)),(U1 (C3 (S5 K hr) (pv 0) (pv 1) rfl)),(pv 0)⟩)
   (A9 (C0 (J9 (cM9 K) RR T.N5 boot_tuple (A0 (B4 (L5 K) RR T.L4 boot_sorted (A0 (B7 (M7 K) (pv 3) (K2 (T:=["_law_way"]) (is:=[]) rfl (.of rfl) (O2 (pv 2)) (G3 DD) λ_ _ _ _=>⟨(E2 (i:=0) (by decide +kernel:(["_law_way"]:AJ).Nodup) rfl (Or.inl rfl)),K9,(D0 (A0 (B5 (ixK K) (pv 0) A8) (A0 (B5 (ixK K) (pv 0) A8) A4)))⟩)) A4)) A4)))))),G1 hS r ?_ q⟩
 have M:∀{ρ:List Sl},ρ[1]? = some (.val (tI [x,y,z]))->LV.E K true (tOp (rIx K) (F6 1) (tC (.int 0))) ρ (.int x):=λh=>D8 (A5 h) B0 rfl rfl
 have R:∀{ρ:List Sl},ρ[1]? = some (.val (tI [x,y,z]))->LV.E K true (tOp (rIx K) (F6 1) (tC (.int 1))) ρ (.int y):=λh=>D8 (A5 h) B0 rfl rfl
 have D:∀{ρ:List Sl},ρ[1]? = some (.val (tI [x,y,z]))->LV.E K true (tOp (rIx K) (F6 1) (tC (.int 2))) ρ (.int z):=λh=>D8 (A5 h) B0 rfl rfl
 refine B1 (E1 (E6 (A3 (G0 (A3 (M rfl) (A3 (R rfl) A7))) (A3 (G0 (A3 (R rfl) (A3 (D rfl) A7))) (A3 (G0 (A3 (D rfl) (A3 (M rfl) A7))) A7))) (show 3<=PySem.sizeLine by decide)) ?_ (show 2<4 by decide))
 refine bH6 (i:=2) rfl ?_;have X:=F8 (K:=K) (m:=true) (g:=F4 0) (te:=F6 0) (fNi (w3 x y z)) (W3 (ds:=ps.map pD) v0) (by rw[Aa3];unfold sizeLine;exact aH7) (λd j=>by
  obtain⟨u,hu,rfl⟩:=Aa8.mp j;refine⟨_,B6,?_⟩;have e:=W4 (K:=K) (m:=false) (ρ:=(slC [.val (.tuple (ps.map pD)),.val (tI [x,y,z]),.val (.list ((w3 x y z).map pD)),.no] 1 [2]).set 0 (.val (pD u))) v0 v1 rfl (U7 _).fit (aR5 _);rw[aR6]at e;show match (if(u.1,u.2)∈w3 x y z then none else some (tI [u.1,u.2])) with | none=>_ | some y=>_
  by_cases h:u∈w3 x y z
  .rw[Ac h];rw[Am h]at e;exact C2 e
  .rw[Ab h];rw[Aj h]at e;exact⟨C2 e,A5 rfl⟩)
 rw[cI0]at X;refine B1 (E1 X ?_ (show 3<4 by decide))
 have Y:=F8 (m:=true) (ρ:=[.val (.tuple (ps.map pD)),.val (tI [x,y,z]),.val (.list ((w3 x y z).map pD)),.own ((ps.filter λp=>decide (p∉w3 x y z)).map pD)]) (n:=1) (is:=[]) (g:=F4 0) (te:=bQ4 (E8 (tOp (rIx K) (F6 0) (tC (.int 1))) (E8 (tOp (rIx K) (F6 0) (tC (.int 0))) R3))) fSw (T7 v2) (show 3<sizeLine by decide) (λd j=>by
  obtain⟨u,hu,rfl⟩:=Aa8.mp j;exact⟨_,B6,Z9,G0 (A3 (D8 (A5 rfl) B0 rfl rfl) (A3 (D8 (A5 rfl) B0 rfl rfl) A7))⟩)
 rw[cL0]at Y;have lf:(ps.filter λp=>decide (p∉w3 x y z)).length<=60:=Aq (List.length_filter_le _ _) hl
 have U:((w3 x y z).map sw).length=3:=rfl
 have J:=aS7 (G9 (i:=3) rfl) (EF.e' Y) (T6 _) (T6 _) (by rw[Aa3,Aa3,U];unfold sizeLine;lia)
 rw[<- Ad2]at J;have es:=m6 (A3 (EF.e' J) A7) (by rw[Ab7,U];lia)
 refine K0 (V7 (A3 (EF.e' es) A7) (T6 _)) ?_;show PyData.tuple ((sp (tw ps (w3 x y z))).map pD)=_;rw[cF8 (dJ7 (dG8 x y z))]
theorem eC2 (T:Tx K mg a):J6 P w K mg base CX0 7 a.bH7 a.bF7 ["drawing", "ring"] (spV K dN2):=by
 have j := @eB9 P w K mg base a T
 have e := @cV2 P w K mg base a T
 refine T.bI9.F.ok bD0 (S7 (by rintro ds d ⟨_,_,_,_,_,_,_,_,rfl,_⟩;rfl)) (λJ A Y s H vs Q E c h=>?_)
 obtain⟨ds,S,d,M,r,⟨m,X,tr,x,y,z,U,t3,rfl,rfl⟩,q⟩:=h;refine⟨_,(A6 (psS 2 bD0 (pcl j c T.bV9 (A0 (pv 0) (A0 (pv 1) A4))))
   (A9 (C0 (X7 (aJ2 K c) (pcl e c T.T9 (A0 (pv 0) (A0 (B5 (ixK K) (pv 1) A8) (A0 (B5 (ixK K) (pv 1) A8) A4)))) (pv 2) rfl)))),G1 M r ?_ q⟩
 refine B1 (E1 (M4 (A3 (A5 rfl) (A3 (A5 rfl) A7)) ⟨m,X,tr,x,y,z,U,t3,rfl,rfl⟩) ?_ (show 2<3 by decide))
 refine K0 (bC8 (C6 (A3 (A5 rfl) (A3 (D8 (A5 rfl) B0 rfl rfl) (A3 (D8 (A5 rfl) B0 rfl rfl) A7))) ⟨m,X,tr,x,y,U,t3.1,rfl,(bG3 _).symm⟩) (G9 rfl) rfl (X0 _).fit (cK0 _)) ?_;rw[cV6]
theorem dK8 (T:Tx K mg a):J6 P w K mg base CX0 2 a.bD3 a.aY3 ["arrows", "ring"] (spV K dN1):=by
 have j := @aW0 P w K mg base a T
 refine T.aJ8.F.ok bX2 (S7 (by rintro ds d ⟨_,_,_,_,_,rfl,_⟩;rfl)) (λJ A c s H vs Q E U h=>?_)
 obtain⟨ds,S,d,M,r,⟨ps,x,y,z,D,rfl,rfl⟩,q⟩:=h;refine⟨_,(A9 (C0 (B4 (aG2 K rfl) RR T.bJ1 boot_all (A0 (K2 (T:=["way"]) (is:=[0]) rfl (.of rfl) (O2 (pcl j U T.P6 (A0 (pv 1) A4))) (G3 DD) λ_ _ _ _=>⟨(E2 (i:=0) (by decide +kernel:(["way", "arrows"]:AJ).Nodup) rfl (Or.inl rfl)),K9,(X7 (aJ2 K U) (pv 0) (pv 1) rfl)⟩) A4)))),G1 M r ?_ q⟩
 have Y:=F8 (K:=K) (m:=true) (g:=F4 0) (fGo ps) (T7 (EF.e' (M4 (pre:=cJ9) (X:=E0) (A3 v1 A7) ⟨x,y,z,rfl,rfl⟩))) (show 3<sizeLine by decide) (λd R=>by
  obtain⟨u,B,rfl⟩:=Aa8.mp R;refine⟨_,B6,Z9,?_⟩;have e:=bC8 (K:=K) (m:=true) (ρ:=(slC (sl0 ["arrows", "ring"].length [.tuple (ps.map pD),tI [x,y,z]]) 1 [0]).set 0 (.val (pD u))) v0 v1 rfl (U7 u).fit (aB9 ps);rw[aR6]at e;exact e)
 rw[dG3]at Y;refine K0 (cJ5 (A3 (EF.e' Y) A7)) ?_;rw[List.all_map];rfl
theorem eE2 (T:Tx K mg a):J6 P w K mg base CX0 3 a.cJ7 a.cK1 ["drawing", "arrows"] (spL K dN3):=by
 have Y := @dK8 P w K mg base a T
 refine T.cF6.F.ok sc_rings (bB0 (by rintro ds d ⟨_,_,_,_,rfl,_⟩;rfl)) (λcdv A outer s H vs Q E hr h=>?_)
 obtain⟨ds,S,es,hS,r,⟨U,ps,J,hdl,rfl,rfl⟩,q⟩:=h;refine⟨_,(A6 (psS 2 sc_rings (C4 A4))
   (A6 (J5 Al rfl (O9 (pv 1)) (i9 rfl (E7 (E2 (i:=3) sc_rings.nd rfl (Or.inr rfl)) (E7 (E2 (i:=4) sc_rings.nd rfl (Or.inr rfl)) T3))) (A9 (N0 (C3 aU3 (pv 3) (pv 4) (E9 _)) (A9 (E4 (G7 Ab1 PySem.F.slot_list_extend PySem.F.type_list_extend aF4 (pv 2) (A0 (K2 (T:=["c"]) (is:=[1,3,4]) rfl (.of rfl) (aS6 rfl T.J8 (A0 (B7 H9 (pv 3) A8) (A0 (B4 (aK1 K) RR T.O4 Av (A0 (pv 0) A4)) A4))) (G3 DD) λ_ _ _ _=>⟨(E2 (i:=0) (by decide +kernel:(["c", "arrows", "a", "b"]:AJ).Nodup) rfl (Or.inl rfl)),(U1 (P3 (pcl Y hr T.aJ8 (A0 (pv 1) (A0 (D0 (A0 (pv 2) (A0 (pv 3) (A0 (pv 0) A4)))) A4))))),(D0 (A0 (pv 2) (A0 (pv 3) (A0 (pv 0) A4))))⟩) A4)))) F0)))
   (A9 (C0 (B4 (L5 K) RR T.L4 boot_sorted (A0 (pv 2) A4)))))),Y9 hS r ?_ q⟩
 have hl:=J.len
 have D:∀i,i<=ps.length->(ga (λi=>rp1 U.length ps (gp ps i)) i).length<=63:=λi hi=>by
  have:=(aL6 (n:=i) λj hj=>(show(rl1 ps (gp ps j)).Perm (rp1 U.length ps (gp ps j)) from ?_)).length_eq
  .have:=cA1 J hi;lia
  .refine(List.perm_ext_iff_of_nodup (bZ8 J.nd _) (dA9 _)).mpr λv=>?_
   rw[rl1_mem,cI8];have hm:gp ps j∈ps:=Aw (bD2 cV0);constructor
   .rintro⟨c,e,h1,h2,h3,h4⟩;exact⟨c,e,h3,h4,(J.lo _ h2).2.1,h2,hm,h1⟩
   .rintro⟨c,e,h1,h2,h3,h4,h5,h6⟩;exact⟨c,e,h6,h4,h1,h2⟩
 have M:((U.map tN).length)=U.length:=by rw[Aa3]
 refine B1 (E1 (E6 A7) ?_ (show 2<5 by decide))
 refine B1 (N2 (W3 (A5 rfl)) (λi ρ=>∃x3 x4,(x3.nb=true/\x4.nb=true)/\ρ=[vD U,.val (.tuple (ps.map pD)),.own ((ga (λi=>rp1 U.length ps (gp ps i)) i).map tI),x3,x4]) ⟨.no,.no,⟨rfl,rfl⟩,rfl⟩ ?_ ?_)
 .rintro i d _ hd ⟨x3,x4,⟨b3,b4⟩,rfl⟩;obtain⟨rfl,hi⟩:=cP0 hd;have hlo:=J.lo _ (Aw (bD2 hi));have hp1:=D i zq1;have R:=D (i+1) AO
  rw[P8]at R;generalize hx:gp ps i=x at hlo R;refine⟨_,aD5 (G4 B6 (G4 B6 Z4)),?_⟩;show W K _ [vD U,.val (.tuple (ps.map pD)),.own ((ga (λi=>rp1 U.length ps (gp ps i)) i).map tI),vI x.1,vI x.2] _
  refine X2 (C2 (aB2 (A5 rfl) (A5 rfl))) (λh=>?_) (λh=>G6 ?_)
  .have h:=Ap h
   have cm:=F8 (K:=K) (m:=true) (ρ:=[vD U,.val (.tuple (ps.map pD)),.own ((ga (λi=>rp1 U.length ps (gp ps i)) i).map tI),vI x.1,vI x.2]) (g:=F4 0) (fRg U.length ps x) (bZ4 (i:=x.1+1) (A3 (L8 v3 B0) (A3 (P4 (A3 v0 A7)) A7)) (by rw[M];lia)) (by rw[N3,M];unfold sizeLine;lia) (λd hd=>by
    obtain⟨k,hk⟩:=List.mem_iff_getElem?.mp hd;obtain⟨rfl,hk⟩:=cF4 hk;refine⟨_,B6,?_⟩;have B:=t_b (C6 (K:=K) (ρ:=(slC [vD U,.val (.tuple (ps.map pD)),.own ((ga (λi=>rp1 U.length ps (gp ps i)) i).map tI),vI x.1,vI x.2] 1 [1,3,4]).set 0 (.val (.int (x.1+1+k)))) (pre:=dN1) (X:=E0) (A3 v1 (A3 (G0 (A3 v2 (A3 v3 (A3 v0 A7)))) A7)) ⟨ps,x.1,x.2,x.1+1+k,aK6,rfl,rfl⟩)
    unfold fRg;dsimp only;cases hb:(wys x.1 x.2 (x.1+1+k)).all λw=>decide (w∈ps) with
    | true=>rw[hb]at B;exact⟨B,G0 (A3 v2 (A3 v3 (A3 v0 A7)))⟩
    | false=>rw[hb]at B;exact B)
   have ef:(S6 (x.1+1) (((U.map tN).length)-(x.1+1)).toNat).filterMap (fRg U.length ps x)=(rp1 U.length ps x).map tI:=by
    unfold rp1 S6;rw[Ac h,M,Ba,List.map_filterMap,Ba];refine L9 λk _=>?_
    show(if(wys x.1 x.2 (x.1+1+k)).all λw=>decide (w∈ps) then some (tI [x.1,x.2,x.1+1+k]) else none)=_
    dsimp only[Function.comp]
    split <;> rfl
   rw[ef]at cm;refine aG0 rfl cm ?_ ⟨.val (.int x.1),vI x.2,⟨rfl,rfl⟩,?_⟩
   .rw[Ab7]at R;rw[Aa3,Aa3];unfold sizeLine;exact aK6
   .rw[P8,hx,Ad2];rfl
  .have h:=Bl h
   refine⟨.val (.int x.1),vI x.2,⟨rfl,rfl⟩,?_⟩
   have:rp1 U.length ps x=[]:=by unfold rp1;rw[Ab h]
   rw[P8,hx,this,Bf]
 rintro _ ⟨x3,x4,_,rfl⟩;rw[Aa3];exact aE6 (p7 (A3 (G9 rfl) A7) (dN7 λv hv=>cO6 v ((bL5 J).mem_iff.mpr hv)) (dD2 J) ((C8 _).trans (bL5 J)) (Q0 _)) rfl
def eC4 (ds:AG)(d:PyData):Prop:=∃(m:Nat) (dr tr:AA) (ps:List (Int×Int)) (x y z:Nat),Dw m dr tr/\Tri dr x y z/\ps.length<=60/\ds=[tD dr,.tuple (ps.map pD),tI [(x:Int),y,z]]/\(∀w∈wys x y z,w∈ps)/\d=.tuple ((sp (tw ps (wys x y z))).map pD)
theorem cO3 (T:Tx K mg a):J6 P w K mg base CX0 3 a.bW2 a.bU3 ["drawing", "arrows", "ring"] (spV K eC4):=by
 have j := @dL1 P w K mg base a T
 have c := @dK8 P w K mg base a T
 refine T.bR3.F.ok sc_turned (S7 (by rintro ds d ⟨_,_,_,_,_,_,_,_,_,_,rfl,_⟩;rfl)) (λcdv A R s H vs Q E M h=>?_)
 obtain⟨ds,S,d,hS,r,⟨m,X,tr,ps,D,B,z',dw,t3,hl,rfl,Y,rfl⟩,q⟩:=h;refine⟨_,(A6 (aC3 (i:=3) sc_turned.nd rfl (Or.inr rfl) (pcl j M T.aC6 (A0 (pv 0) (A0 (pv 2) A4))))
   (A6 (N0 (W8 (P3 (pcl c M T.aJ8 (A0 (pv 1) (A0 (pv 2) A4))))) aS9 F0)
   (A6 (v9 (i:=4) sc_turned.nd rfl rfl (T:=["way"]) (is:=[3]) rfl (.of rfl) (O9 (pv 1)) (G3 DD) λ_ _ _ _=>⟨(E2 (i:=0) (by decide +kernel:(["way", "ways"]:AJ).Nodup) rfl (Or.inl rfl)),(U1 (C3 (S5 K M) (pv 0) (pv 1) rfl)),(pv 0)⟩)
   (A9 (C0 (J9 (cM9 K) RR T.N5 boot_tuple (A0 (B4 (L5 K) RR T.L4 boot_sorted (A0 (B7 (M7 K) (pv 4) (K2 (T:=["p", "q"]) (is:=[]) rfl (.of rfl) (O2 (pv 3)) (dR2 DD DD) λ_ _ _ _=>⟨(i9 (n:=2) rfl (E7 (E2 (i:=0) (by decide +kernel:(["p", "q"]:AJ).Nodup) rfl (Or.inl rfl)) (E7 (E2 (i:=1) (by decide +kernel:(["p", "q"]:AJ).Nodup) rfl (Or.inl rfl)) T3))),K9,(D0 (A0 (pv 1) (A0 (pv 0) A4)))⟩)) A4)) A4))))))),G1 hS r ?_ q⟩
 refine B1 (E1 (ds:=(wys D B z').map pD) (M4 (A3 (A5 rfl) (A3 (A5 rfl) A7)) ⟨m,X,tr,D,B,z',dw,t3,rfl,rfl⟩) ?_ (show 3<5 by decide))
 generalize D=x at Y ⊢;generalize B=y at Y ⊢;generalize z'=z at Y ⊢;refine B1 (X2 (aB1 (t_b (C6 (A3 (A5 rfl) (A3 (A5 rfl) A7)) ⟨ps,x,y,z,aK6,rfl,rfl⟩))) (λU=>?_) (λU=>G6 ?_))
 .have:=Ac9.mpr λw hw=>Am (Y w hw)
  rw[this]at U;cases U
 generalize hG:wys x y z=G at Y ⊢;have cm:=F8 (K:=K) (m:=true) (g:=F4 0) (te:=F6 0) (fNi G) (W3 (ds:=ps.map pD) v1) (by rw[Aa3];unfold sizeLine;exact aH7) (λd J=>by
  obtain⟨u,hu,rfl⟩:=Aa8.mp J;refine⟨_,B6,?_⟩;have e:=W4 (K:=K) (m:=false) (ρ:=(slC [vD X,.val (.tuple (ps.map pD)),.val (tI [x,y,z]),.own (G.map pD),.no] 1 [3]).set 0 (.val (pD u))) v0 (aN9 (i:=1) rfl) rfl (U7 u).fit (aR5 G);rw[aR6]at e;show match (if(u.1,u.2)∈G then none else some (tI [u.1,u.2])) with | none=>_ | some y=>_
  by_cases h:u∈G
  .rw[Ac h];rw[Am h]at e;exact C2 e
  .rw[Ab h];rw[Aj h]at e;exact⟨C2 e,A5 rfl⟩)
 rw[cI0]at cm;refine B1 (E1 cm ?_ (show 4<5 by decide))
 have g3:G.length=3:=by rw[<- hG];rfl
 have c2:=F8 (ρ:=[vD X,.val (.tuple (ps.map pD)),.val (tI [x,y,z]),.own (G.map pD),.own ((ps.filter λp=>decide (p∉G)).map pD)]) (n:=2) (is:=[]) (g:=cC4 K 2 (p4 (F4 0) (p4 (F4 1) bN2))) fSw (T7 (G9 (i:=3) rfl)) (by rw[Aa3,g3];decide) (λd J=>by
  obtain⟨u,hu,rfl⟩:=Aa8.mp J;exact⟨_,aD5 (G4 B6 (G4 B6 Z4)),Z9,G0 (A3 (LV.E.imm (aN9 (i:=1) rfl)) (A3 (LV.E.imm (aN9 (i:=0) rfl)) A7))⟩)
 rw[cL0]at c2;have lf:(ps.filter λp=>decide (p∉G)).length<=60:=Aq (List.length_filter_le _ _) hl
 have e3:(G.map sw).length=3:=by rw[Aa3,g3]
 have ec:=aS7 (G9 (i:=4) rfl) (EF.e' c2) (T6 _) (T6 _) (by rw[Aa3,Aa3,e3];unfold sizeLine;lia)
 rw[<- Ad2]at ec;have es:=m6 (A3 (EF.e' ec) A7) (by rw[Ab7,e3];lia)
 exact K0 (V7 (A3 (EF.e' es) A7) (T6 _)) rfl
end
end K37
namespace LV
open PySem L2
end LV
set_option maxHeartbeats 1000000
namespace K37
open PySem L2 LV PyProof.Rows
theorem aM0 (c:Dw m dr tr):t∈X9 m dr↔∃p q,q∈TT.trn dr p/\t=cL (TT.lnd (TT.trn dr) p q)/\TT.lnd (TT.trn dr) p q≠[0,2,1]:=by
 unfold X9;rw[Ah,(C8 _).mem_iff,Aa8];constructor
 .rintro⟨⟨l,hl,rfl⟩,h⟩;obtain⟨p,q,j,rfl⟩:=c.good.rds_mem.mp hl;exact⟨p,q,j,rfl,λe=>by rw[e]at h;simp[cL]at h⟩
 .rintro⟨p,q,j,rfl,h⟩;exact⟨⟨_,c.good.rds_mem.mpr ⟨p,q,j,rfl⟩,rfl⟩,Am λe=>h (aT5 (show cL _=cL [0,2,1] from e))⟩
theorem aY1 (j:Dw m dr tr):(X9 m dr).length+5=2*(m+3):=by
 have h:=j.good.inner_len
 unfold X9;have c:=(C8 ((TT.rds (TT.trn dr) (m+3)).map cL)).filter λl=>decide (l≠[0,2,1])
 rw[c.length_eq,List.filter_map,Aa3,<- h]
 congr 2
 refine List.filter_congr λl _=>?_
 exact Bc.mpr (not_congr ⟨λe=>(aT5 (show cL l=cL [0,2,1] from e)),λe=>by rw[e];rfl⟩)
def hI (H:Nat->Nat->Int):AF->Int
 | [x,y,_]=>H x.toNat y.toNat
 | _=>0
def hN (H:Nat->Nat->Int)(l:AD):Int:=hI H (cL l)
section
theorem aR4 (X:Dw m dr tr)(c:TT.Po (TT.trn dr) u v H)(U:q∈TT.trn dr p):hN H (TT.lnd (TT.trn dr) p q)=H p q:=by
 have G:=X.good
 have s:=G.th U
 have j:=c.fa _ _ _ s
 have Y:=c.fa _ _ _ (G.tri _ _ _ s)
 unfold TT.lnd;rcases TT.S3 p q (TT.th (TT.trn dr) p q) with e | e | e <;> rw[e]
 .show H ((p:Int).toNat) ((q:Int).toNat)=_
  rw[Ac8,Ac8]
 .show H ((q:Int).toNat) ((TT.th (TT.trn dr) p q:Int).toNat)=_
  rw[Ac8,Ac8,j]
 .show H ((TT.th (TT.trn dr) p q:Int).toNat) ((p:Int).toNat)=_
  rw[Ac8,Ac8,j,Y]
theorem aS3 (e:Dw m dr tr)(s:TT.Po (TT.trn dr) u v H)(c:t∈X9 m dr):∃p q,q∈TT.trn dr p/\t=cL (TT.lnd (TT.trn dr) p q)/\hI H t=H p q:=by
 obtain⟨p,q,j,rfl,_⟩:=(aM0 e).mp c;exact⟨p,q,j,rfl,aR4 e s j⟩
end
def kvH (H:Nat->Nat->Int)(L:AA):List (AF×PyData):=L.map λl=>(cL l,PyData.int (hN H l))
theorem cK6 (H:Nat->Nat->Int)(L:AA)(l:AD):(kvH H L).any (λx=>decide (x.1=cL l))=decide (l∈L):=by
 unfold kvH;rw[List.any_map,By,List.any_eq_true,Ai];constructor
 .rintro⟨x,hx,h⟩;simp  [Function.comp,Ai]at h;rw[<- aT5 h];exact hx
 .intro h;exact⟨l,h,by simp[Function.comp]⟩
theorem dI9 (h:l∉L):l9 (kvH H L) (cL l) (.int (hN H l))=kvH H (L++[l]):=by
 unfold l9;rw[cK6,Ab (by simp[h])]
 unfold kvH;rw[Ad2];rfl
theorem bX7 (H:Nat->Nat->Int)(L:AA):(kvH H L).all (λx=>aA8 x.2)=true:=by
 unfold kvH;rw[List.all_map,Ac9];intro x _;rfl
theorem cC6:∀{L:AA},l∈L->atD (kvH H L) (cL l)=some (.int (hN H l))
 | [],h=>by cases h
 | x::L,h=>by
  unfold atD kvH;rw[Ac7,Bw];by_cases e:x=l
  .subst e;simp
  .have e':¬cL x=cL l:=λz=>e (aT5 z)
   simp only[e',decide_false];exact cC6 (by rcases Aa1.mp h with h | h;exact absurd h.symm e;exact h)
def fHe (H:Nat->Nat->Int):PyData->Option PyData
 | .tuple [.int x,.int y,.int _]=>some (.int (H x.toNat y.toNat))
 | _=>none
theorem dH9 {L:AC}(h:∀t∈L,∃x y z:Int,t=[x,y,z]):(L.map tI).filterMap (fHe H)=(L.map (hI H)).map PyData.int:=by
 rw[Ba,Ae3,<- List.filterMap_eq_map];refine L9 λt e=>?_
 obtain⟨x,y,z,rfl⟩:=h t e;rfl
def cE4 (ds:AG)(d:PyData):Prop:=∃(m:Nat) (dr tr:AA) (one other:List (Int×Int)) (H:Nat->Nat->Int),Dw m dr tr/\TT.Po (TT.trn dr) (uA one) (uA other) H/\ds=[tD dr,.tuple (one.map pD),.tuple (other.map pD)]/\d=tI ((X9 m dr).map (hI H))
theorem L6:B8 ["_law_drawing", "_law_left", "_law_p", "_law_q"] ["_law_drawing"] (B3 O8):={}
theorem n9:B8 ["_law_one", "_law_other", "_law_way", "_law_back"] ["_law_one", "_law_other", "_law_way"] (B3 X3):={}
theorem sc__law_heights:B8 ["_law_drawing", "_law_one", "_law_other", "_law_left", "_law_known", "_law_waiting", "_law_a", "_law_b", "_law_c", "_law_way", "_law_beyond"] ["_law_drawing", "_law_one", "_law_other"] (B3 Y0):={}
theorem bW5:∀(kv:List (AF×PyData)) (k k':AF) (d:PyData),atD (l9 kv k d) k'=if k'=k then some d else atD kv k':=λkv k k' d=>by
 unfold l9;have any_iff:(kv.any λx=>decide (x.1=k))=true↔∃x∈kv,x.1=k:=by
  rw[List.any_eq_true];exact⟨λ⟨x,h,z⟩=>⟨x,h,Ap z⟩,λ⟨x,h,z⟩=>⟨x,h,Am z⟩⟩
 split
 .rename_i h;obtain⟨x,hx,hk⟩:=any_iff.mp h
  clear h any_iff
  induction kv with
  | nil=>cases hx
  | cons y kv ih=>
   rw[Ac7];unfold atD;rw[Bw,Bw];by_cases e:y.1=k
   .rw[Ac e];by_cases e':k'=k
    .rw[Ac e',e,Am e'.symm];rfl
    .rw[Ab e',e,Aj (λz=>e' z.symm)]
     have:∀(l:List (AF×PyData)),((l.map λx=>if x.1=k then(x.1,d) else x).find? λx=>decide (x.1=k')).map (·.2)=(l.find? λx=>decide (x.1=k')).map (·.2):=λl=>by
      induction l with
      | nil=>rfl
      | cons z l ihl=>
       rw[Ac7,Bw,Bw];by_cases ez:z.1=k
       .rw[Ac ez,ez,Aj (λz=>e' z.symm)];exact ihl
       .rw[Ab ez];by_cases e3:z.1=k'
        .rw[Am e3]
        .rw[Aj e3];exact ihl
     exact this kv
   .rw[Ab e];rcases Aa1.mp hx with rfl | hx
    .exact absurd hk e
    .have ih:=ih hx
     by_cases e3:y.1=k'
     .have e4:=λz=>e (e3.trans z)
      rw[Am e3,Ab e4]
     .rw[Aj e3];exact ih
 .rename_i h;have hn:=λx hx e=>h (any_iff.mpr ⟨x,hx,e⟩)
  unfold atD;rw[List.find?_append];by_cases e':k'=k
  .rw[Ac e',List.find?_eq_none.mpr (λx hx=>by rw[decide_eq_true_iff];exact λz=>hn x hx (z.trans e')),Option.none_or,Bw,Am e'.symm];rfl
  .rw[Ab e',Bw,Aj (λz=>e' z.symm)]
   cases kv.find? λx=>decide (x.1=k') <;> rfl
theorem aM1 (h:x.nb=true):O7 (x::r)=O7 r:=by
 cases x <;> first | rfl | cases h
def eB6 (ds:AG)(post:PyData->Prop):Prop:=∃(m:Nat) (dr tr:AA),Dw m dr tr/\ds=[tD dr]/\post=λd=>∃kvs,d=.dict (V9 kvs)/\∀p q:Nat,q∈TT.trn dr p->atD kvs [(p:Int),(q:Int)]=some (tI (cL (TT.lnd (TT.trn dr) p q)))
theorem cN5 (h1:x≠y)(X:y≠z)(U:x≠z):TT.W2 [x,y,z]=TT.nrm x y z:=by
 obtain⟨M,R,s,Q⟩:∃M:Nat,M∈[x,y,z]/\(∀c∈[x,y,z],M<=c)/\[x,y,z].drop ([x,y,z].idxOf M)++[x,y,z].take ([x,y,z].idxOf M)=TT.nrm x y z:=by
  unfold TT.nrm;by_cases m:x<y/\x<z
  .rw[Ac m];exact⟨x,SS,λc j=>by simp at j;lia,SS⟩
  .rw[Ab m];by_cases Y:y<z/\y<x
   .rw[Ac Y];exact⟨y,SS,λc j=>by simp at j;lia,by rw[show [x,y,z].idxOf y=1 from TT.F1 (p:=[x]) (by simp[h1,X,U]) rfl];rfl⟩
   .rw[Ab Y];exact⟨z,SS,λc j=>by simp at j;lia,by rw[show [x,y,z].idxOf z=2 from TT.F1 (p:=[x,y]) (by simp[h1,X,U]) rfl];rfl⟩
 have e:TT.mn [x,y,z]=M:=by
  have J:=TT.aW4 (l:=[x,y,z]) SS
  have D:=J.2 M R
  have F:=s _ J.1
  lia
 unfold TT.W2;rw[e,Q]
theorem cO7 (h:kvs.all (λx=>aA8 x.2)=true)(e:aA8 d=true):(l9 kvs k d).all (λx=>aA8 x.2)=true:=by
 rw[Ac9]at h ⊢;intro x hx;unfold l9 at hx;split at hx
 .obtain⟨y,j,rfl⟩:=Aa8.mp hx;split
  .exact e
  .exact h y j
 .rcases Aa0.mp hx with hx | hx
  .exact h x hx
  .rw[Ad8.mp hx];exact e
theorem dD3 (l:AF):aA8 (tI l)=true:=by
 show(l.map PyData.int).all _=true
 rw[List.all_map,Ac9];intro x _;rfl
def dM2 (ds:AG)(d:PyData):Prop:=∃(one other:List (Int×Int)) (p q:Nat),TT.rsn (uA one) (uA other) q p = - TT.rsn (uA one) (uA other) p q/\ds=[.tuple (one.map pD),.tuple (other.map pD),pD ((p:Int),(q:Int))]/\d=.int (TT.rsn (uA one) (uA other) p q)
def alL (m:Nat)(dr:AA):AC:=R4 ((TT.rds (TT.trn dr) (m+3)).map cL)
theorem dC1 (m:Nat)(e:AA):X9 m e=(alL m e).filter λl=>decide (l≠[0,2,1]):=rfl
def fH2 (H:Nat->Nat->Int)(d:PyData):Option PyData:=if PyData.eqv d (tI [0,2,1]) then none else fHe H d
theorem dH6 {L:AC}(h:∀t∈L,∃x y z:Int,t=[x,y,z]):(L.map tI).filterMap (fH2 H)=((L.filter λl=>decide (l≠[0,2,1])).map (hI H)).map PyData.int:=by
 rw[<- dH9 λt j=>h t (Ah.mp j).1,Ba,Ba,List.filterMap_filter]
 refine L9 λt j=>?_
 show(if PyData.eqv (tI t) (tI [0,2,1]) then none else fHe H (tI t))=if decide (t≠[0,2,1])=true then fHe H (tI t) else none
 rw[aC4];by_cases e:t=[0,2,1] <;> simp[e]
theorem eG8 (h:x6.nb=true/\x7.nb=true/\x8.nb=true/\x9.nb=true/\x10.nb=true):O7 [.val a,.val b,.val c,.val d,.tr e,.own f,x6,x7,x8,x9,x10]=true:=by
 show O7 [x6,x7,x8,x9,x10]=true
 rw[aM1 h.1,aM1 h.2.1,aM1 h.2.2.1,aM1 h.2.2.2.1,aM1 h.2.2.2.2];rfl
section
variable {P:Program}{w:World}{K:Frag}{mg:Str->Option Value}{base:Heap}{a:Ad}
theorem dY8 (T:Tx K mg a):J6 P w K mg base CX0 2 a.V8 a.W0 ["_law_drawing"] (spX K eB6):=by
 have Y := @bT5 P w K mg base a T
 refine T.W5.F.ok L6 (eE3 (by rintro ds d ⟨_,_,_,_,rfl,_⟩;rfl)) (λcdv A outer s H vs Q E hr h=>?_)
 obtain⟨ds,S,post,hS,r,⟨m,X,tr,R,rfl,rfl⟩,q⟩:=h;refine⟨_,(A6 (psS 1 L6 bJ8)
   (A6 (J5 Al rfl (K1 rfl T.J8 (A0 (B4 (aK1 K) RR T.O4 Av (A0 (pv 0) A4)) A4)) (pgN 2 L6) (A9 (J5 Al rfl (O9 (B5 (ixK K) (pv 0) (pv 2))) (pgN 3 L6) (A9 (aR0 K hr (pv 1) (D0 (A0 (pv 2) (A0 (pv 3) A4))) (pcl Y hr T.z5 (A0 (C4 (A0 (pv 2) (A0 (pv 3) (A0 (B5 (ixK K) (B5 (ixK K) (pv 0) (pv 3)) (B7 Q2 (G7 PySem.F.plainAttrs_tuple PySem.F.slot_tuple_index PySem.F.type_tuple_index (r9 K) (B5 (ixK K) (pv 0) (pv 3)) (A0 (pv 2) A4)) A8)) A4)))) A4)))))))
   (A9 (C0 (pv 1))))),cT1 hS r ?_ q⟩
 have G:=R.good
 have m7:=R.m7
 have hln:(X.map tN).length=m+3:=by rw[Aa3];exact R.len
 refine B1 (bC0 bB9 ?_ (show 1<4 by decide))
 refine B1 (N2 (T4 (A3 (P4 (A3 (A5 rfl) A7)) A7) SS LL) (λb ρ=>∃(kvs:List (AF×PyData)) (x2 J:Sl),(x2.nb=true/\J.nb=true)/\kvs.length<=10*b/\kvs.all (λx=>aA8 x.2)=true/\(∀p q:Nat,p<b->q∈TT.trn X p->atD kvs [p,q]=some (tI (cL (TT.lnd (TT.trn X) p q))))/\ρ=[vD X,.tr (.dic kvs),x2,J]) ⟨[],.no,.no,⟨rfl,rfl⟩,SS,rfl,λp q h=>by simp_all,rfl⟩ ?_ ?_)
 .rintro p d _ hd ⟨kvs,x2,J,⟨b2,b3⟩,hl,hf,hm,rfl⟩;obtain⟨rfl,hp⟩:=T2 hd;have hp:p<m+3:=by lia
  have hpl:=R.tle p
  refine⟨_,B6,?_⟩;refine N2 (W3 (D8 (A5 rfl) (A5 rfl) rfl (R.at_ hp))) (λj ρ=>∃(c:List (AF×PyData)) (J:Sl),J.nb=true/\c.length<=10*p+j/\c.all (λx=>aA8 x.2)=true/\(∀M q:Nat,M<p->q∈TT.trn X M->atD c [M,q]=some (tI (cL (TT.lnd (TT.trn X) M q))))/\(∀q:Nat,q∈(TT.trn X p).take j->atD c [p,q]=some (tI (cL (TT.lnd (TT.trn X) p q))))/\ρ=[vD X,.tr (.dic c),vI p,J]) ⟨kvs,J,b3,OO,hf,hm,SS,rfl⟩ ?_ ?_
  .rintro j d _ hd ⟨c,J,b3,hl2,hf2,hm2,hj2,rfl⟩;have hjl:j<(TT.trn X p).length:=by have:=(Ab0.mp hd).1;rw[C9]at this;exact this
   unfold nI at hd;rw[Aa9]at hd;obtain⟨U,hq',rfl⟩:=Ay.mp hd;have hq:=Aw hq';have hx:=G.sym hq;refine⟨_,B6,?_⟩;obtain⟨n1,n2,n3⟩:=G.th_ne hq;have D:LV.E K false (tOp (rIx K) (F6 0) (F6 3)) [vD X,.tr (.dic c),vI p,vI U] (tN (TT.trn X U)):=D8 (A5 rfl) (A5 rfl) rfl (R.at_ (R.lt hx));have hI:LV.E K false _ [vD X,.tr (.dic c),vI p,vI U] (.int ((((TT.trn X U).map λ(x:Nat)=>(x:Int)).idxOf (p:Int):Nat))):=aO8 (by rw[<- aU0];exact D) v2 (Aa8.mpr ⟨p,hx,rfl⟩)
   rw[o7 p (TT.trn X U)]at hI;have hth:=LV.E.imm (D8 D (L8 hI (B0)) rfl (dB7 hx));refine bC3 (by
    rw[<- bG3];exact C6 (A3 (EF.e' (E6 (A3 (A5 rfl) (A3 (A5 rfl) (A3 hth A7))))) A7) ⟨[p,U,TT.th (TT.trn X) p U],SS,SS,rfl,by rw[cN5 n1 n2 n3];rfl⟩) rfl (G0 (A3 (A5 rfl) (A3 (A5 rfl) A7))) (by unfold sizeLine;lia) ⟨l9 c [p,U] (tI (cL (TT.lnd (TT.trn X) p U))),vI U,rfl,by have:=bR7 c [p,U] (tI (cL (TT.lnd (TT.trn X) p U)));lia,cO7 hf2 (dD3 _),λM B h1 h2=>?_,λB h2=>?_,rfl⟩
   .rw[bW5,Ab QQ];exact hm2 M B h1 h2
   .rw[bW5];by_cases e:B=U
    .rw[e,Ac rfl]
    .rw[Ab QQ]
     refine hj2 B ?_;rw[Dc,hq']at h2;simp  [Option.toList_some,Aa0,Ad8]at h2;rcases h2 with h2 | h2
     .exact h2
     .exact absurd h2 e
  .rintro _ ⟨c,J,b3,hl2,hf2,hm2,hj2,rfl⟩;rw[C9]at hl2 hj2;rw[Co]at hj2;refine⟨c,_,J,⟨rfl,b3⟩,LL,hf2,λM B h1 h2=>?_,rfl⟩
   by_cases e:M=p
   .subst e;exact hj2 B h2
   .exact hm2 M B LL h2
 rintro _ ⟨kvs,x2,J,_,hl,hf,hm,rfl⟩;rw[N3,hln,show((m+3:Nat):Int).toNat=m+3 by rfl]at hm
 refine bO3 (i:=1) rfl ?_;show W K _ [vD X,.val (dD kvs),x2,J] _;rw[bL0 hf];exact K0 (A5 rfl) ⟨kvs,rfl,λp U hq=>hm p U (R.lt hq) hq⟩
theorem eA6 (T:Tx K mg a):J6 P w K mg base CX0 1 a.aA9 a.aA6 ["_law_one", "_law_other", "_law_way"] (spV K dM2):=by
 refine T.aA2.F.ok n9 (S7 (by rintro ds d ⟨_,_,_,_,_,rfl,_⟩;rfl)) (λD A X s H vs Q E c h=>?_)
 obtain⟨ds,S,d,B,r,⟨one,other,p,e,j,rfl,rfl⟩,q⟩:=h;refine⟨_,(A6 (psS 3 n9 (D0 (A0 (B5 (ixK K) (pv 2) A8) (A0 (B5 (ixK K) (pv 2) A8) A4))))
   (A6 (N0 (C3 (aJ2 K c) (pv 2) (pv 0) rfl) (A9 (C0 (J9 bG5 RR T.bR8 boot_int (A0 (X7 (S5 K c) (pv 2) (pv 1) rfl) A4)))) F0)
   (A6 (N0 (C3 (aJ2 K c) (pv 3) (pv 0) rfl) (A9 (C0 (B7 Q2 A8 (J9 bG5 RR T.bR8 boot_int (A0 (X7 (S5 K c) (pv 3) (pv 1) rfl) A4))))) F0)
   (A9 (C0 A8))))),G1 B r ?_ q⟩
 refine B1 (F3 (G0 (A3 (D8 (A5 rfl) B0 rfl rfl) (A3 (D8 (A5 rfl) B0 rfl rfl) A7))) ?_);have U:=bC8 (K:=K) (m:=false) (ρ:=[.val (.tuple (one.map pD)),.val (.tuple (other.map pD)),.val (pD (p,e)),.val (pD (e,p))]) v2 v0 rfl (U7 _).fit (aB9 _);have J:=W4 (K:=K) (m:=false) (ρ:=[.val (.tuple (one.map pD)),.val (.tuple (other.map pD)),.val (pD (p,e)),.val (pD (e,p))]) v2 v1 rfl (U7 _).fit (aB9 _);have M:=bC8 (K:=K) (m:=false) (ρ:=[.val (.tuple (one.map pD)),.val (.tuple (other.map pD)),.val (pD (p,e)),.val (pD (e,p))]) v3 v0 rfl (U7 _).fit (aB9 _);have R:=W4 (K:=K) (m:=false) (ρ:=[.val (.tuple (one.map pD)),.val (.tuple (other.map pD)),.val (pD (p,e)),.val (pD (e,p))]) v3 v1 rfl (U7 _).fit (aB9 _);rw[aR6]at U J M R;unfold TT.rsn uA at j ⊢;refine B1 (X2 (C2 U) (λh=>?_) (λh=>G6 ?_))
 .refine K0 (cO9 (A3 J A7)) ?_;rw[h];cases decide (((p:Int),(e:Int))∈other) <;> rfl
 refine B1 (X2 (C2 M) (λY=>?_) (λY=>G6 ?_))
 .refine K0 (L8 (B0) (cO9 (A3 R A7))) ?_;rw[h,Y]at j;rw[h]
  revert j
  cases decide (((e:Int),(p:Int))∈other) <;> cases decide (((p:Int),(e:Int))∈other) <;> simp
 .refine K0 (B0) ?_;rw[h,Y]at j;rw[h]
  revert j
  cases decide (((e:Int),(p:Int))∈other) <;> cases decide (((p:Int),(e:Int))∈other) <;> simp
theorem dK2 (T:Tx K mg a):J6 P w K mg base CX0 3 a.aE1 a.aB4 ["_law_drawing", "_law_one", "_law_other"] (spV K cE4):=by
 have U := @dY8 P w K mg base a T
 have R := @eA6 P w K mg base a T
 refine T.T5.F.ok sc__law_heights (S7 (by rintro ds d ⟨_,_,_,_,_,_,_,_,rfl,_⟩;rfl)) (λcdv A outer s Hh vs Q E hr h=>?_)
 obtain⟨ds,S,d,hS,r,⟨m,J,tr,one,other,H,dw,po,rfl,rfl⟩,q⟩:=h;refine⟨_,(A6 (psS 3 sc__law_heights (pcl U hr T.W5 (A0 (pv 0) A4)))
   (A6 (aC3 (i:=4) sc__law_heights.nd rfl (Or.inr rfl) (dI0 K hr (D0 (A0 A8 (A0 A8 (A0 A8 A4)))) A8))
   (A6 (psS 5 sc__law_heights (C4 (A0 (D0 (A0 A8 (A0 A8 (A0 A8 A4)))) A4)))
   (A6 (Y7 Al (C3 aI9 (B4 (aK1 K) RR T.O4 Av (A0 (pv 5) A4)) A8 (E9 _)) (A6 (aS2 (bE1 Ab1 PySem.F.slot_list_pop PySem.F.type_list_pop bC5 (pv 5)) (i9 (n:=3) rfl (E7 (pgN 6 sc__law_heights) (E7 (pgN 7 sc__law_heights) (E7 (pgN 8 sc__law_heights) T3)))))
   (A9 (J5 Al rfl (O9 (D0 (A0 (D0 (A0 (pv 6) (A0 (pv 7) A4))) (A0 (D0 (A0 (pv 7) (A0 (pv 8) A4))) (A0 (D0 (A0 (pv 8) (A0 (pv 6) A4))) A4))))) (pgN 9 sc__law_heights) (A6 (psS 10 sc__law_heights (B5 (bZ7 K hr) (pv 3) (D0 (A0 (B5 (ixK K) (pv 9) A8) (A0 (B5 (ixK K) (pv 9) A8) A4)))))
   (A9 (N0 (C3 (aU5 K hr) (pv 10) (pv 4) rfl) (A6 (aR0 K hr (pv 4) (pv 10) (B7 Q2 (B5 (bZ7 K hr) (pv 4) (D0 (A0 (pv 6) (A0 (pv 7) (A0 (pv 8) A4))))) (pcl R hr T.aA2 (A0 (pv 1) (A0 (pv 2) (A0 (pv 9) A4))))))
   (A9 (E4 (G7 Ab1 Ag Af D3 (pv 5) (A0 (pv 10) A4))))) F0)))))))
   (A9 (C0 (J9 (cM9 K) RR T.N5 boot_tuple (A0 (K2 (T:=["_law_land"]) (is:=[4]) rfl (.of rfl) (O2 (B4 (cA0 K rfl) RR T.L4 boot_sorted (A0 (pv 4) A4))) (G3 DD) λ_ _ _ _=>⟨(E2 (i:=0) (by decide +kernel:(["_law_land", "_law_known"]:AJ).Nodup) rfl (Or.inl rfl)),(U1 (C3 (bK4 K hr) (pv 0) (D0 (A0 A8 (A0 A8 (A0 A8 A4)))) (E9 _))),(B5 (bZ7 K hr) (pv 1) (pv 0))⟩) A4)))))))),G1 hS r ?_ q⟩
 have G:=dw.good
 have m7:=dw.m7
 have m02:=(TT.B2 G.outs.1).1
 have h02:hN H [0,2,1]=0:=by rw[<- aY0 dw,aR4 dw po m02];exact po.z
 refine B1 (cX9 (A3 (A5 rfl) A7) ⟨m,J,tr,dw,rfl,rfl⟩ ?_);rintro _ ⟨kl,rfl,hkl⟩;refine B1 (bC0 (dA5 (ks:=[0,2,1]) (G0 (A3 B0 (A3 B0 (A3 B0 A7)))) B0 rfl) ?_ (show 4<11 by decide))
 refine B1 (E1 (E6 (A3 (G0 (A3 B0 (A3 B0 (A3 B0 A7)))) A7)) ?_ (show 5<11 by decide))
 refine B1 (aF7 (λvr ρ=>∃(met wt:AA) (D:List (Nat×Nat)) (x6 x7 x8 x9 B:Sl),(vr=2*(16-met.length)+wt.length/\vr<=40)/\(x6.nb=true/\x7.nb=true/\x8.nb=true/\x9.nb=true/\B.nb=true)/\TT.MI (TT.trn J) (λ_ _=>False) 0 2 met D/\(∀l∈wt,l∈met)/\(∀l∈met,l∉wt->∀u∈TT.wys l,u∈D)/\ρ=[vD J,.val (.tuple (one.map pD)),.val (.tuple (other.map pD)),.val (.dict (V9 kl)),.tr (.dic (kvH H met)),.own (wt.map tN),x6,x7,x8,x9,B]) ⟨_,[TT.lnd (TT.trn J) 0 2],[TT.lnd (TT.trn J) 0 2],[],.no,.no,.no,.no,.no,⟨rfl,SS⟩,⟨rfl,rfl,rfl,rfl,rfl⟩,TT.MI.ini m02,λl h=>h,λl h1 h2=>absurd h1 h2,by
  rw[aY0 dw];show _=[_,_,_,_,Sl.tr (.dic [([0,2,1],.int (hN H [0,2,1]))]),_,_,_,_,_,_];rw[h02];rfl⟩ ?_)
 rintro vr ρ' ⟨met,wt,D,x6,x7,x8,x9,B,⟨hv,hv40⟩,hb,M,hw,hD,rfl⟩;have ml:=M.sub G;refine⟨decide (((wt.map tN).length:Int)>0),C2 (aB2 (P4 (A3 (G9 rfl) A7)) (B0)),?_⟩;rw[Aa3];rcases Ac5 wt with rfl | ⟨wt',l0,rfl⟩
 .rw[Aj SS,Ab Ao]
  have hall:∀l,l∈met↔l∈TT.rds (TT.trn J) (m+3):=λl=>by
   rw[M.fin G m02 (λl hl=>hD l hl SS),G.rds_mem]
   constructor
   .rintro⟨p,q',h1,h2,_⟩;exact⟨p,q',h1,h2⟩
   .rintro⟨p,q',h1,h2⟩;exact⟨p,q',h1,h2,TT.bB1 G (λq x y ha h=>.rot h ha) (λp q hq h=>.cross h hq id) m02 .base p q' h1⟩
  have hmp:=(List.perm_ext_iff_of_nodup M.nd G.rds_nd).mpr hall
  have hrl:=G.rds_len
  have hml:=hmp.length_eq
  refine bO3 (i:=4) rfl ?_;show W K _ [vD J,.val (.tuple (one.map pD)),.val (.tuple (other.map pD)),.val (.dict (V9 kl)),.val (dD (kvH H met)),.own _,x6,x7,x8,x9,B] _;rw[bL0 (bX7 H met)];have k3:∀t∈alL m J,∃x y z:Int,t=[x,y,z]:=λt ht=>by
   obtain⟨l,hl,rfl⟩:=Aa8.mp ((C8 _).mem_iff.mp ht);obtain⟨p,q',_,rfl⟩:=G.rds_mem.mp hl;obtain⟨a,b,c,e,_⟩:=aF1 (TT.trn J) p q';rw[e];exact⟨a,b,c,rfl⟩
  have hkk:(kvH H met).map (·.1)=met.map cL:=by unfold kvH;rw[Ae3];rfl
  have hkn:(kvH H met).length=met.length:=by unfold kvH;rw[Aa3]
  have so:=cT4 (K:=K) (ss:=alL m J) (ρ:=[vD J,.val (.tuple (one.map pD)),.val (.tuple (other.map pD)),.val (.dict (V9 kl)),.val (.dict (V9 (kvH H met))),.own ((([])).map tN),x6,x7,x8,x9,B]) v4 (λx hx=>by
   obtain⟨l,hl,rfl⟩:=Aa8.mp hx;obtain⟨p,q',_,rfl⟩:=G.rds_mem.mp ((hall l).mp hl);obtain⟨a,b,c,e,_⟩:=aF1 (TT.trn J) p q';rw[e];simp[cL]) LL LL (by rw[hkk];exact(C8 _).trans (hmp.map cL).symm) (Q0 _)
  have hal:(alL m J).length<=20:=by unfold alL;rw[(C8 _).length_eq,Aa3];lia
  have cm:=F8 (m:=true) (g:=F4 0) (fH2 H) (T7 (EF.e' so)) (by rw[Aa3];unfold sizeLine;exact aH7) (λd hd=>by
   obtain⟨t,ht,rfl⟩:=Aa8.mp hd;obtain⟨l,hl,rfl⟩:=Aa8.mp ((C8 _).mem_iff.mp ht);refine⟨_,B6,?_⟩;have e:=cJ4 (K:=K) (m:=false) (ρ:=(slC [vD J,.val (.tuple (one.map pD)),.val (.tuple (other.map pD)),.val (.dict (V9 kl)),.val (.dict (V9 (kvH H met))),.own ((([])).map tN),x6,x7,x8,x9,B] 1 [4]).set 0 (.val (tI (cL l)))) (d':=tI [0,2,1]) v0 (G0 (A3 B0 (A3 B0 (A3 B0 A7)))) (FitN.fit (X0 _)) (FitN.fit (X0 _));have e3:fHe H (tI (cL l))=some (.int (hN H l)):=by
    obtain⟨x,y,z,e⟩:=k3 _ ht;rw[show hN H l=hI H (cL l) from rfl,e];rfl
   show match (if PyData.eqv (tI (cL l)) (tI [0,2,1]) then none else fHe H (tI (cL l))) with | none=>_ | some y=>_
   cases h:PyData.eqv (tI (cL l)) (tI [0,2,1]) with
   | true=>rw[h]at e;exact C2 e
   | false=>
    rw[h]at e;rw[Ab Ao,e3];exact⟨C2 e,bP8 v1 v0 (cC6 ((hall l).mpr hl))⟩)
  rw[dH6 k3,<- dC1]at cm;exact K0 (V7 (A3 (EF.e' cm) A7) (o8 _)) rfl
 .rw[List.concat_eq_append]at *;rw[Am SS,Ac rfl,Ad2]
  have hlm:=hw l0 SS
  obtain⟨p0,q0,hq0,el,_⟩:=M.rc _ hlm;obtain⟨xa,xb,xc,e3,_⟩:=aF1 (TT.trn J) p0 q0;have hl0:∀g∈TT.wys l0,g.2∈TT.trn J g.1/\hN H l0=H g.1 g.2:=λg hg=>by
   rw[el]at hg ⊢;have h1:=G.wys_back hq0 hg;refine⟨h1.1,?_⟩;rw[aR4 dw po hq0];have a1:=po.fa _ _ _ (G.th hq0);have a2:=po.fa _ _ _ (G.tri _ _ _ (G.th hq0));rcases (G.wys_lnd hq0).mp hg with rfl | rfl | rfl
   .rfl
   .exact a1
   .exact a1.trans a2
  rw[e3]at el;subst el;refine B1 (dR8 (bN7 rfl (eG8 hb)) (aD5 (G4 B6 (G4 B6 (G4 B6 Z4)))) ?_);refine N2 (W3 (ds:=[(xa,xb),(xb,xc),(xc,xa)].map λz=>pD (cI z)) (G0 (A3 (G0 (A3 (A5 rfl) (A3 (A5 rfl) A7))) (A3 (G0 (A3 (A5 rfl) (A3 (A5 rfl) A7))) (A3 (G0 (A3 (A5 rfl) (A3 (A5 rfl) A7))) A7))))) (λu ρ=>∃(Y wt2:AA) (D':List (Nat×Nat)) (x9 B:Sl),(x9.nb=true/\B.nb=true)/\TT.MI (TT.trn J) (λ_ _=>False) 0 2 Y D'/\(∀l∈met,l∈Y)/\2*(16-Y.length)+wt2.length<vr/\(∀l∈wt2,l∈Y)/\(∀l∈Y,l∉wt2->l≠[xa,xb,xc]->∀u∈TT.wys l,u∈D')/\(∀v∈([(xa,xb),(xb,xc),(xc,xa)]).take u,v∈D')/\ρ=[vD J,.val (.tuple (one.map pD)),.val (.tuple (other.map pD)),.val (.dict (V9 kl)),.tr (.dic (kvH H Y)),.own (wt2.map tN),vI xa,vI xb,vI xc,x9,B]) ⟨met,wt',D,x9,B,⟨hb.2.2.2.1,hb.2.2.2.2⟩,M,λl h=>h,by rw[hv];simp,λl h=>hw l (by simp[h]),λl h1 h2 h3=>hD l h1 (by simp[h2,h3]),SS,rfl⟩ ?_ ?_
  .rintro u d _ hd ⟨Y,wt2,D',x9,B,hb',M',hsub,hlt,hw2,hD2,hDu,rfl⟩;rw[Aa9]at hd;obtain⟨g,hg,rfl⟩:=Ay.mp hd;have hlm':=hsub _ hlm;have hgw:g∈TT.wys [xa,xb,xc]:=by
    have:=Aw hg
    simp[TT.wys]at this ⊢
    rcases this with h | h | h <;> simp[h]
   obtain⟨gt,hg0⟩:=hl0 g hgw;have ml':=M'.sub G;have tk:∀v,v∈([(xa,xb),(xb,xc),(xc,xa)]).take (u+1)->v∈([(xa,xb),(xb,xc),(xc,xa)]).take u\/v=g:=λv hx=>by
    rw[Dc,hg]at hx;simpa using hx
   refine⟨_,B6,?_⟩;refine B1 (F3 (bP8 (A5 rfl) (G0 (A3 (D8 (A5 rfl) B0 rfl rfl) (A3 (D8 (A5 rfl) B0 rfl rfl) A7))) (hkl g.2 g.1 (G.sym gt)) (bB5 _)) ?_);have t3:=cH8 (K:=K) (m:=false) (neg:=true) (i:=4) (ρ:=[vD J,.val (.tuple (one.map pD)),.val (.tuple (other.map pD)),.val (.dict (V9 kl)),.tr (.dic (kvH H Y)),.own (wt2.map tN),vI xa,vI xb,vI xc,.val (pD (cI g)),.val (tI (cL (TT.lnd (TT.trn J) g.2 g.1)))]) (A5 (i:=10) rfl) rfl;rw[cK6]at t3;refine X2 (C2 t3) (λh2=>?_) (λh2=>G6 ?_)
   .have hn:TT.lnd (TT.trn J) g.2 g.1∉Y:=by simpa using h2
    have M2:=M'.add G hlm' hgw id hn
    have ml2:=M2.sub G
    rw[Ab7]at ml2;have hdd:LV.E K false (F6 4) [vD J,.val (.tuple (one.map pD)),.val (.tuple (other.map pD)),.val (.dict (V9 kl)),.tr (.dic (kvH H Y)),.own (wt2.map tN),vI xa,vI xb,vI xc,.val (pD (cI g)),.val (tI (cL (TT.lnd (TT.trn J) g.2 g.1)))] (.dict (V9 (kvH H Y))):=by
     rw[<- bL0 (bX7 H Y)];exact eG5 (t:=.dic (kvH H Y)) rfl
    have s1:=po.st _ _ gt
    have s2:=po.st _ _ (G.sym gt)
    have hvv:hN H (TT.lnd (TT.trn J) g.2 g.1)=hN H [xa,xb,xc]-TT.rsn (uA one) (uA other) g.1 g.2:=by
     rw[aR4 dw po (G.sym gt),hg0];exact s1
    have ev:=L8 (m:=true) (g:=λi j=>i-j) (bP8 hdd (G0 (ds:=[.int xa,.int xb,.int xc]) (A3 v6 (A3 v7 (A3 v8 A7)))) (cC6 hlm')) (C6 (pre:=dM2) (X:=E0) (A3 v1 (A3 v2 (A3 (A5 (i:=9) rfl) A7))) ⟨one,other,g.1,g.2,LL,rfl,rfl⟩)
    rw[<- hvv]at ev;refine B1 (bC3 ev rfl (A5 rfl) (by unfold kvH;rw[Aa3];unfold sizeLine;lia) ?_)
    rw[dI9 hn];refine J4 rfl (A5 rfl) (by rw[Aa3];unfold sizeLine;lia) ⟨Y++[TT.lnd (TT.trn J) g.2 g.1],wt2++[TT.lnd (TT.trn J) g.2 g.1],D'++[g],.val (pD (cI g)),.val (tI (cL (TT.lnd (TT.trn J) g.2 g.1))),⟨rfl,rfl⟩,M2,λl h=>Ak _ (hsub l h),?_,λl h=>?_,λl h1 h2 h3 v hv=>?_,λv hv=>?_,?_⟩
    .rw[Ab7,Ab7];simp at ml2 ⊢;lia
    .rcases Aa0.mp h with h | h
     .exact Ak _ (hw2 l h)
     .exact Ac1 _ h
    .rcases Aa0.mp h1 with h1 | h1
     .exact Ak _ (hD2 l h1 (λz=>h2 (Ak _ z)) h3 v hv)
     .exact absurd (Ac1 _ h1) h2
    .rcases tk v hv with h | rfl
     .exact Ak _ (hDu v h)
     .simp
    .rw[Ad2,<- bG3];rfl
   .have hn:TT.lnd (TT.trn J) g.2 g.1∈Y:=by simpa using h2
    refine⟨Y,wt2,D'++[g],_,_,⟨rfl,rfl⟩,M'.skip G hlm' hgw (.inr hn),hsub,hlt,hw2,λl h1 h2 h3 v hv=>Ak _ (hD2 l h1 h2 h3 v hv),λv hv=>?_,rfl⟩
    rcases tk v hv with h | rfl
    .exact Ak _ (hDu v h)
    .simp
  .rintro _ ⟨Y,wt2,D',x9,B,hb',M',hsub,hlt,hw2,hD2,hDu,rfl⟩;refine⟨_,hlt,Y,wt2,D',_,_,_,x9,B,⟨rfl,LL⟩,⟨rfl,rfl,rfl,hb'.1,hb'.2⟩,M',hw2,λl h1 h2 v hv=>?_,rfl⟩
   by_cases h3:l=[xa,xb,xc]
   .refine hDu v ?_;rw[h3]at hv
    simp[TT.wys]at hv ⊢
    rcases hv with h | h | h <;> simp[h]
   .exact hD2 l h1 h2 h3 v hv
end
end K37
namespace TT
section
variable {n:Nat}{r:Nat->AD}{A A1 A2 e e':Nat->Nat->Prop}{s:Bool}{a b c a' b' c' p q:Nat}
theorem dR0 (G:Good n r)(S:Rs r)(j:b∈r a)(Y:c∈r b)(m:a∈r c) :
  (Rc r (sh3 a b c) 0 2 a b↔¬Rc r (sh3 a b c) 0 2 b a)/\(Rc r (sh3 a b c) 0 2 b c↔Rc r (sh3 a b c) 0 2 a b)/\(Rc r (sh3 a b c) 0 2 c a↔Rc r (sh3 a b c) 0 2 a b)/\(Rc r (sh3 a b c) 0 2 a c↔¬Rc r (sh3 a b c) 0 2 a b):=by
 have F:a≠b:=λe=>G.self b (by rw[e]at j;exact j)
 have B:b≠c:=λe=>G.self c (by rw[e]at Y;exact Y)
 have P:a≠c:=λe=>G.self c (by rw[e]at m;exact m)
 obtain⟨H,e,D,J,X,U,_⟩:=bQ7 (sh:=sh3 a b c) G S j Y m
  (λp q _ h=>⟨Am h,Aj (by grind)⟩) (λp q _ h=>⟨Aj (by grind),Am h⟩) (λp q _ h M=>by rw[Aj h,Aj M]) (λp q _=>Iff.rfl)
 have h1:=J.st a b j
 have R:=J.st b c Y
 have Q:=J.st c a m
 have w:∀p q,((p=a/\q=b)\/(p=b/\q=c)\/(p=c/\q=a))->rsn (λp q=>decide ((p=a/\q=b)\/(p=b/\q=c)\/(p=c/\q=a))) (λp q=>decide ((q=a/\p=b)\/(q=b/\p=c)\/(q=c/\p=a))) p q=1:=λp q h=>by
  unfold rsn
  have:¬((q=a/\p=b)\/(q=b/\p=c)\/(q=c/\p=a)):=by grind
  simp[h,this]
 rw[w a b (.inl ⟨rfl,rfl⟩)]at h1;rw[w b c (.inr (.inl ⟨rfl,rfl⟩))]at R;rw[w c a (.inr (.inr ⟨rfl,rfl⟩))]at Q;have v1:=X a b;have v2:=X b a;have v3:=X b c;have v4:=X c b;have v5:=X c a;have v6:=X a c;rw[<- U a b j,<- U b a (G.sym j),<- U b c Y,<- U c a m,<- U a c (G.sym m)]
 lia
theorem Si.rot (G:Good n r)(S:Rs r)(j:b∈r a)(m:c∈r b)(Y:a∈r c)(h:Si r s a b c):Si r s b c a:=by
 unfold Si at *;have e:=dJ9 (a:=a) (b:=b) (c:=c) G (B2 G.outs.1).1 (x:=b) (y:=c);rw[h,e,(dR0 G S j m Y).2.1]
theorem Si.un (h:Si r s a b c)(j:Si r s' a b c):s=s':=by
 unfold Si at *;cases s <;> cases s' <;> simp_all
end
section
theorem Po.hits (G:Good n r)(h:Po r u v H):∀p q,q∈r p->∀j:Int,0<=j->j<=H p q->∃p' q',q'∈r p'/\H p' q'=j:=by
 have m:=(B2 G.outs.1).1
 refine bB1 G (λq x y U e=>?_) (λp q X e j Y J=>?_) m (λj Y J=>⟨0,2,m,by have:=h.z;lia⟩)
 .rw[<- h.fa q x y U];exact e
 .have s:=h.st p q X
  by_cases c:j<=H p q
  .exact e j Y c
  .refine⟨q,p,G.sym X,?_⟩;have : -1<=rsn u v p q:=by unfold rsn;split <;> split <;> decide
   lia
end
end TT
set_option maxHeartbeats 1000000
namespace K37
open PySem L2 LV PyProof.Rows
theorem Q3:B8 ["_law_arrows_here", "_law_cells", "_law_k", "_law_cell", "_law_found"] ["_law_arrows_here", "_law_cells"] (B3 w4):={}
def pA (ps:List (Int×Int))(x y:Nat):Prop:=((x:Int),(y:Int))∈ps
structure Ar (m:Nat)(dr:AA)(ps:List (Int×Int)):Prop where
 ai:AI dr ps
 srt:sp ps=ps
 o3:TT.O3 (m+3) (TT.trn dr) (pA ps)
theorem Dw.rs (e:Dw m dr tr):TT.Rs (TT.trn dr):=by
 obtain⟨_,_,_,_,B⟩:=e;exact B.rs
section
variable {m:Nat}{dr tr:AA}{ps:List (Int×Int)}
theorem aT0 (j:Dw m dr tr):pA (arr tr) x y↔3<=x/\x<m+3/\∃c,c<3/\TT.og tr c x=y:=by
 unfold pA;constructor
 .intro h;obtain⟨v,c,X,s,e⟩:=aM8 j h;simp only[Ck]at e;have Y:x=v+3:=by lia
  subst Y;exact⟨SS,XX,c,s,LL⟩
 .rintro⟨h3,hx,c,s,rfl⟩;obtain⟨v,rfl⟩:∃v,x=v+3:=⟨x-3,XX⟩
  unfold arr;rw[ga_mem];refine⟨v,by rw[j.tl];simp_all,?_⟩
  rw[bC6 j YY]
  have:(((v+3:Nat)))=3+v:=by lia
  rw[this];rcases (show c=0\/c=1\/c=2 by lia) with rfl | rfl | rfl <;> simp
theorem bX8 (e:Dw m dr tr):Ar m dr (sp (arr tr)):=by
 have U:=dV9 e
 have F:pA (sp (arr tr))=pA (arr tr):=by
  funext x y;unfold pA;exact propext (j7 _).mem_iff
 refine⟨U.perm (j7 _),dA6 _,?_⟩;rw[F];have X:∀p q,q∈TT.trn dr p->3<=p->pA (arr tr) p q\/pA (arr tr) q p:=λp q Y j=>by
  have s:=e.lt Y
  obtain⟨_,_,_,_,B⟩:=id e;rcases B.tie' j s Y with h | ⟨P,qn,h⟩
  .exact .inl ((aT0 e).mpr ⟨j,s,h⟩)
  .exact .inr ((aT0 e).mpr ⟨P,qn,h⟩)
 refine⟨λp q h=>?_,λx y h M=>U.anti _ h M,λp q Y h=>?_,λp q h=>((aT0 e).mp h).1,λp j s=>?_⟩
 .obtain⟨j,s,c,J,rfl⟩:=(aT0 e).mp h;obtain⟨_,_,_,_,B⟩:=id e;exact(B.out_mem J j s).1
 .rcases h with h | h
  .exact X p q Y h
  .exact(X q p (e.good.sym Y) h).symm
 .obtain⟨_,_,_,_,B⟩:=id e;obtain⟨⟨R,Q,D⟩,_⟩:=B.outs j s;refine⟨TT.og tr 0 p,TT.og tr 1 p,TT.og tr 2 p,R,D,Q,λq=>?_⟩
  rw[aT0 e];constructor
  .rintro⟨_,_,c,J,rfl⟩;rcases (show c=0\/c=1\/c=2 by lia) with rfl | rfl | rfl <;> simp
  .rintro (rfl | rfl | rfl)
   .exact⟨j,s,0,DD,rfl⟩
   .exact⟨j,s,1,DD,rfl⟩
   .exact⟨j,s,2,DD,rfl⟩
theorem Dw.thin (e:Dw m dr tr):TT.aK5 (m+3) (pA (sp (arr tr))):=by
 obtain⟨_,_,_,_,B⟩:=id e;exact B.thin λp q h=>((aT0 e).mp ((j7 _).mem_iff.mp h)).2.2
theorem dN5 {x y z:Nat}:pA (sp (tw ps (wys x y z)))=TT.tnA (pA ps) x y z:=by
 funext p q
 unfold pA TT.tnA;refine propext ?_;rw[(j7 _).mem_iff,dP0];simp  [wys,Aa1,Ac2,or_false,Ck,Int.natCast_inj];grind
theorem Rn.ws (g:TT.Rn (pA ps) x y z):∀w∈wys (x:Int) y z,w∈ps:=λw e=>by
 simp  [wys,Aa1,Ac2,or_false]at e
 rcases e with rfl | rfl | rfl
 .exact g.2.2
 .exact g.1
 .exact g.2.1
theorem Ar.turn (e:Dw m dr tr)(h:Ar m dr ps)(g:TT.Rn (pA ps) x y z):Ar m dr (sp (tw ps (wys x y z))):=
 ⟨(h.ai.turn e (Rn.ws g)).perm (j7 _),dA6 _,by rw[dN5];exact h.o3.turn e.rs g⟩
end
section
variable {m:Nat}{dr tr:AA}{x y z:Nat}
theorem Tri.ne (j:Dw m dr tr)(t:Tri dr x y z):x≠y/\y≠z/\x≠z:=
 ⟨λe=>j.good.self y (by have:=t.1;rw[e]at this;exact this),λe=>j.good.self z (by have:=t.2.1;rw[e]at this;exact this),λe=>j.good.self z (by have:=t.2.2;rw[e]at this;exact this)⟩
theorem out_mem (s:Dw m dr tr)(t3:Tri dr x y z):t∈bT6 dr x y z↔∃p q,q∈TT.trn dr p/\t=cL (TT.lnd (TT.trn dr) p q)/\TT.Rc (TT.trn dr) (TT.sh3 x y z) 0 2 p q:=by
 have G:=s.good
 have j:=(TT.B2 G.outs.1).1
 obtain⟨R,Q,D⟩:=t3.ne s;have U:∀p q,q∈TT.trn dr p->(TT.shP (rgW x y z) p q↔TT.sh3 x y z p q):=λp q c=>by
  have J:p≠q:=λe=>G.self p (by rw[<- e]at c;exact c)
  unfold TT.shP rgW TT.sh3;simp  [Aa1,Ac2,or_false,Ck]
  lia
 have X:∀{p q:Nat},TT.Rc (TT.trn dr) (TT.shP (rgW x y z)) 0 2 p q↔TT.Rc (TT.trn dr) (TT.sh3 x y z) 0 2 p q:=λ{p q}=>
  ⟨TT.i7 (λ_ _ h=>G.sym h) G.tri j U,TT.i7 (λ_ _ h=>G.sym h) G.tri j λp q h=>(U p q h).symm⟩
 unfold bT6;rw[Aa8];have M:=s.m7;constructor
 .rintro⟨l,hl,rfl⟩;obtain⟨p,q,c,rfl,Y⟩:=(TT.cF7 G j XX).mp hl
  exact⟨p,q,c,rfl,X.mp Y⟩
 .rintro⟨p,q,c,rfl,Y⟩;exact⟨_,(TT.cF7 G j XX).mpr ⟨p,q,c,rfl,X.mpr Y⟩,rfl⟩
theorem cZ0 (j:Dw m dr tr)(h:q∈TT.trn dr p)(s:q'∈TT.trn dr p')(e:TT.lnd (TT.trn dr) p q=TT.lnd (TT.trn dr) p' q'):TT.Rc (TT.trn dr) sh 0 2 p q↔TT.Rc (TT.trn dr) sh 0 2 p' q':=
 TT.bT2 j.good (λq x y c=>⟨λz=>.rot z c,λz=>.rot (.rot z (j.good.tri _ _ _ c)) (j.good.tri _ _ _ (j.good.tri _ _ _ c))⟩) h s e
theorem dV3 (j:Dw m dr tr)(t3:Tri dr x y z)(c:q∈TT.trn dr p):cL (TT.lnd (TT.trn dr) p q)∈cB2 m dr x y z↔¬TT.Rc (TT.trn dr) (TT.sh3 x y z) 0 2 p q:=by
 unfold cB2;rw[Ah,aM0 j,Bool.not_eq_true',Ce,out_mem j t3];have s:=(TT.B2 j.good.outs.1).1;constructor
 .rintro⟨_,h⟩ h';exact h ⟨p,q,c,rfl,h'⟩
 .intro h;refine⟨⟨p,q,c,rfl,λe=>h ((cZ0 j s c (by rw[e,aY0 j])).mp .base)⟩,?_⟩
  rintro⟨U,J,h1,Y,X⟩;exact h ((cZ0 j c h1 (aT5 Y)).mpr X)
end
theorem aX1 {α:Type}(f g:α->Int):∀l:List α,(l.map λx=>f x+g x).sum=(l.map f).sum+(l.map g).sum
 | []=>rfl
 | a::l=>by simp  [Ac7,List.sum_cons,aX1 f g l];lia
theorem bL6 {α:Type}{f:α->Int}:∀l:List α,(∀x∈l,f x<=c)->(l.map f).sum<=c*l.length
 | [],_=>by simp
 | a::l,h=>by
  have h1:=bL6 l λx e=>h x (Ad4 _ e)
  have j:=h a Az
  simp only[Ac7,List.sum_cons,Au];rw[show((l.length+1:Nat):Int)=l.length+1 by rfl,Int.mul_add]
  lia
theorem cP9 {α:Type}{f:α->Int}:∀l:List α,(∀x∈l,0<=f x)->0<=(l.map f).sum
 | [],_=>by simp
 | a::l,h=>by
  have h1:=cP9 l λx e=>h x (Ad4 _ e)
  have j:=h a Az
  simp  [Ac7,List.sum_cons];lia
theorem cJ2 {α:Type}{f:α->Int}:∀l:List α,(∀x∈l,0<=f x)->(∃x∈l,1<=f x)->1<=(l.map f).sum
 | [],_,⟨x,hx,_⟩=>by cases hx
 | a::l,h,⟨x,hx,h1⟩=>by
  have j:=h a Az
  have e:=λx hx=>h x (Ad4 _ hx)
  simp  [Ac7,List.sum_cons]
  rcases Aa1.mp hx with rfl | hx
  .have:=cP9 l e;lia
  .have:=cJ2 l e ⟨x,hx,h1⟩;lia
theorem dQ1 (H:Nat->Nat->Int)(t:AF):hI (λp q => - H p q) t = - hI H t:=by
 unfold hI;split <;> simp
theorem dP2 (H e:Nat->Nat->Int)(t:AF):hI (λp q=>H p q+e p q) t=hI H t+hI e t:=by
 unfold hI;split <;> simp
theorem dE7 (t:AF):hI (λ_ _=>0) t=0:=by
 unfold hI;split <;> rfl
theorem dM1 (s:Dw m dr tr)(X:TT.Po (TT.trn dr) u v H)(D:t∈X9 m dr):hI H t<=15:=by
 obtain⟨p,q,Q,_,e⟩:=aS3 s X D;rw[e];rcases Int.lt_or_le (H p q) 16 with c | c
 .lia
 exfalso
 have U:=(TT.B2 s.good.outs.1).1
 have B:((List.range 16).map λj:Nat=>(j:Int)+1).Nodup:=by
  rw[Ac6,Ae0];exact(Ac6.mp Bz).imp λh e=>h LL
 have:=bE2 B (m:=(X9 m dr).map (hI H)) λx F=>by
  obtain⟨j,J,rfl⟩:=Aa8.mp F;have J:=Ab5.mp J;obtain⟨M,R,Y,e'⟩:=X.hits s.good p q Q (j+1) LL LL
  have ho:TT.lnd (TT.trn dr) M R≠[0,2,1]:=λz=>by
   have:=X.lnd s.good Y U (by rw[z,aY0 s])
   have z0:=X.z
   lia
  exact Aa8.mpr ⟨_,(aM0 s).mpr ⟨M,R,Y,rfl,ho⟩,by
   have:=aR4 s X Y
   unfold hN at this;rw[this,e']⟩
 rw[Aa3,Aa3,Cd]at this;have P:=aY1 s;have m7:=s.m7
 lia
def sm (k:Int)(m:Nat)(dr:AA)(H:Nat->Nat->Int):Int:=((X9 m dr).map λt=>k*hI H t).sum
theorem aI2 (e:Dw m dr tr)(s:TT.Po (TT.trn dr) u v H)(Y:k=1\/k = -1):sm k m dr H<=225:=by
 have h1:=bL6 (f:=λt=>k*hI H t) (c:=15) (X9 m dr) λt j=>by
  rcases Y with rfl | rfl
  .have:=dM1 e s j;simp[*]
  .have:=dM1 e s.symm j
   rw[dQ1]at this;simp[*]
 have X:=aY1 e
 have U:=e.m7
 unfold sm
 lia
theorem Y3 (k:Int)(m:Nat)(e:AA)(H j:Nat->Nat->Int):sm k m e (λp q=>H p q+j p q)=sm k m e H+sm k m e j:=by
 unfold sm;rw[<- aX1]
 congr 1
 refine Bj λt _=>?_
 rw[dP2,Int.mul_add]
theorem cW7 (Y:Dw m dr tr)(U:TT.Po (TT.trn dr) u v H)(X:k=1\/k = -1)(P:e=1\/e = -1)(j:∀p q,H p q=0\/H p q=e)(h:k∈(X9 m dr).map (hI H)):1<=sm k m dr H:=by
 obtain⟨F,c,J⟩:=Aa8.mp h;obtain⟨Q,D,_,_,B⟩:=aS3 Y U c;have s:k=e:=by have:=j Q D;lia
 subst s;refine cJ2 _ (λt R=>?_) ⟨F,c,?_⟩
 .obtain⟨p,q,_,_,M⟩:=aS3 Y U R;rw[M];rcases j p q with z | z <;> rw[z] <;> rcases X with rfl | rfl <;> decide
 .rw[J];rcases X with rfl | rfl <;> decide
theorem eB2 (l:AF)(k:Int):(l.map PyData.int).any (λz=>PyData.eqv z (.int k))=decide (k∈l):=by
 induction l with
 | nil=>rfl
 | cons x l j=>
  rw[Ac7,List.any_cons,j];have e:PyData.eqv (.int x) (.int k)=decide (x=k):=rfl;rw[e,By];simp  [Dx,Ai,Aa1];exact⟨λh=>h.imp Eq.symm id,λh=>h.imp Eq.symm id⟩
def lf (m:Nat)(dr:AA)(x y z:Nat):Bool:=decide (cL (TT.lnd (TT.trn dr) x y)∈cB2 m dr x y z)
section
variable {m:Nat}{dr tr:AA}{ps qs:List (Int×Int)}{x y z:Nat}{s:Bool}
theorem cS7 (e:Dw m dr tr)(t:Tri dr x y z):TT.Si (TT.trn dr) (lf m dr x y z) x y z:=by
 unfold TT.Si lf;rw[decide_eq_true_iff];exact dV3 e t t.1
theorem Ar.tri (e:Ar m dr ps)(g:TT.Rn (pA ps) x y z):Tri dr x y z:=⟨e.o3.tie _ _ g.1,e.o3.tie _ _ g.2.1,e.o3.tie _ _ g.2.2⟩
theorem Ar.lf (j:Dw m dr tr)(e:Ar m dr ps)(g:TT.Rn (pA ps) x y z):TT.Si (TT.trn dr) s x y z↔K37.lf m dr x y z=s:=
 ⟨λh=>(cS7 j (e.tri g)).un h,λh=>by rw[<- h];exact cS7 j (e.tri g)⟩
theorem Ar.eq (a:Ar m dr ps)(b:Ar m dr qs)(h:pA ps=pA qs):ps=qs:=by
 rw[<- a.srt,<- b.srt];refine cF8 ((List.perm_ext_iff_of_nodup a.ai.nd b.ai.nd).mpr λu=>?_)
 have j:∀{p q:List (Int×Int)},Ar m dr p->pA p=pA q->u∈p->u∈q:=λ{p q} a h c=>by
  have lo:=a.ai.lo u c
  obtain⟨Y,X⟩:=u;obtain⟨x,rfl⟩:∃x:Nat,Y=x:=⟨Y.toNat,by have:=lo.1;simp  at this;lia⟩
  obtain⟨y,rfl⟩:∃y:Nat,X=y:=⟨X.toNat,by have:=lo.2.2.1;simp  at this;lia⟩
  have e:=congrFun (congrFun h x) y
  unfold pA at e;rw[<- e];exact c
 exact⟨j a h,j b h.symm⟩
theorem Ar.ring (e:Ar m dr ps)(U:v∈rgL ps):∃x y z:Nat,v=[(x:Int),(y:Int),(z:Int)]/\TT.Rn (pA ps) x y z/\x<y/\x<z:=by
 obtain⟨a,b,c,rfl,j,Y,X,h1,Q⟩:=rgL_mem.mp U;have J:=e.ai.lo _ j;have M:=e.ai.lo _ Y;have R:=e.ai.lo _ X;simp  at J M R;obtain⟨x,rfl⟩:∃x:Nat,a=x:=⟨a.toNat,LL⟩
 obtain⟨y,rfl⟩:∃x:Nat,b=x:=⟨b.toNat,LL⟩
 obtain⟨z,rfl⟩:∃x:Nat,c=x:=⟨c.toNat,LL⟩
 exact⟨x,y,z,rfl,⟨j,Y,X⟩,YY,YY⟩
theorem bC7 (g:TT.Rn (pA ps) x y z)(h1:x<y)(e:x<z):[(x:Int),(y:Int),(z:Int)]∈rgL ps:=rgL_mem.mpr ⟨x,y,z,rfl,g.1,g.2.1,g.2.2,XX,XX⟩
theorem Ar.none (e:Dw m dr tr)(j:Ar m dr ps)(h:∀x y z:Nat,[(x:Int),(y:Int),(z:Int)]∈rgL ps->K37.lf m dr x y z≠s):∀a b c,TT.Rn (pA ps) a b c->¬TT.Si (TT.trn dr) s a b c:=λa b c g k=>by
 have J:=j.o3.ne e.rs g.1
 have M:=j.o3.ne e.rs g.2.1
 have R:=j.o3.ne e.rs g.2.2
 have t:=j.tri g
 have G:=e.good
 have X:=k.rot G e.rs t.1 t.2.1 t.2.2
 have U:=X.rot G e.rs t.2.1 t.2.2 t.1
 rcases (show(a<b/\a<c)\/(b<c/\b<a)\/(c<a/\c<b) by lia) with⟨h1,Y⟩ | ⟨h1,Y⟩ | ⟨h1,Y⟩
 .exact h a b c (bC7 g h1 Y) ((j.lf e g).mp k)
 .exact h b c a (bC7 g.rot h1 Y) ((j.lf e g.rot).mp X)
 .exact h c a b (bC7 g.rot.rot h1 Y) ((j.lf e g.rot.rot).mp U)
def sg (s:Bool):Int:=if s then 1 else -1
theorem sg1 (s:Bool):sg s=1\/sg s = -1:=by cases s <;> simp[sg]
theorem Ar.lift' (j:Dw m dr tr)(U:Ar m dr ps)(g:TT.Rn (pA ps) x y z)(k:TT.Si (TT.trn dr) s x y z):∃H,TT.Po (TT.trn dr) (uA ps) (uA (sp (tw ps (wys x y z)))) H/\(∀p q,H p q=0\/H p q=sg s)/\sg s∈(X9 m dr).map (hI H)/\0∈(X9 m dr).map (hI H):=by
 have G:=j.good
 have t:=U.tri g
 have J:=U.o3.anti
 have vm:∀{p q:Nat},uA (sp (tw ps (wys x y z))) p q=true↔TT.tnA (pA ps) x y z p q:=λ{p q}=>by
  rw[<- dN5];unfold uA pA;exact decide_eq_true_iff
 have vf:∀{p q:Nat},¬TT.tnA (pA ps) x y z p q->uA (sp (tw ps (wys x y z))) p q=false:=λ{p q} h=>Bool.eq_false_iff.mpr λz=>h (vm.mp z)
 obtain⟨B,P,g3⟩:=g;have d1:=U.o3.ne j.rs B;have d2:=U.o3.ne j.rs P;have d3:=U.o3.ne j.rs g3;have b1:=J _ _ B;have b2:=J _ _ P;have b3:=J _ _ g3;have h1':∀p q,q∈TT.trn dr p->((p=x/\q=y)\/(p=y/\q=z)\/(p=z/\q=x))->uA ps p q=true/\uA (sp (tw ps (wys x y z))) p q=false:=λp q R h=>by
  have hp:((p:Int),(q:Int))∈ps:=by
   rcases h with⟨rfl,rfl⟩ | ⟨rfl,rfl⟩ | ⟨rfl,rfl⟩
   .exact B
   .exact P
   .exact g3
  refine⟨Am hp,vf ?_⟩;unfold TT.tnA
  lia
 have h2':∀p q,q∈TT.trn dr p->((q=x/\p=y)\/(q=y/\p=z)\/(q=z/\p=x))->uA ps p q=false/\uA (sp (tw ps (wys x y z))) p q=true:=λp q R h=>by
  have hp:¬((p:Int),(q:Int))∈ps:=by
   rcases h with⟨rfl,rfl⟩ | ⟨rfl,rfl⟩ | ⟨rfl,rfl⟩
   .exact b1
   .exact b2
   .exact b3
  refine⟨Aj hp,vm.mpr ?_⟩;unfold TT.tnA
  lia
 have h3':∀p q,q∈TT.trn dr p->¬((p=x/\q=y)\/(p=y/\q=z)\/(p=z/\q=x))->¬((q=x/\p=y)\/(q=y/\p=z)\/(q=z/\p=x))->uA ps p q=uA (sp (tw ps (wys x y z))) p q:=λp q R h1 h2=>by
  by_cases c:((p:Int),(q:Int))∈ps
  .rw[show uA ps p q=true from Am c];symm
   exact vm.mpr (.inl ⟨c,λz=>h1 (.inl z),λz=>h1 (.inr (.inl z)),λz=>h1 (.inr (.inr z))⟩)
  .rw[show uA ps p q=false from Aj c];symm
   refine vf ?_;rintro (z | z)
   .exact c z.1
   .exact h2 LL
 obtain⟨H,e,he,Q,M,hr,hl⟩:=TT.bQ7 (sh:=TT.sh3 x y z) G j.rs t.1 t.2.1 t.2.2 h1' h2' h3' (λp q _=>Iff.rfl)
 have Y:=(TT.B2 G.outs.1).1
 have F:=hr x y t.1
 have st:=Q.st x y t.1
 have r1:TT.rsn (uA ps) (uA (sp (tw ps (wys x y z)))) x y=1:=by
  unfold TT.rsn;rw[vf (by unfold TT.tnA;lia),show uA ps x y=true from Am B]
  rfl
 rw[r1]at st;have es:sg s=e:=by
  unfold TT.Si at k;rw[<- F]at k;unfold sg;cases s with
  | true=>
   have:=k.mp rfl
   rw[Ac rfl];simp_all
  | false=>
   have:=Classical.byContradiction λz=>by have:=k.mpr z;cases this
   rw[Ab Ao];simp_all
 have inn:∀{p q:Nat} {e:Int},q∈TT.trn dr p->TT.lnd (TT.trn dr) p q≠[0,2,1]->H p q=e->e∈(X9 m dr).map (hI H):=λ{p q e} R ho hh=>by
  exact Aa8.mpr ⟨_,(aM0 j).mpr ⟨p,q,R,rfl,ho⟩,by
   have:=aR4 j Q R
   unfold hN at this;rw[this,hh]⟩
 have ne:∀{p q:Nat},q∈TT.trn dr p->H p q=e->TT.lnd (TT.trn dr) p q≠[0,2,1]:=λ{p q} R hh z=>by
  have:=Q.lnd G R Y (by rw[z,aY0 j])
  have z0:=Q.z
  lia
 rw[es];refine⟨H,Q,M,?_,?_⟩
 .have v1:=M x y
  have v2:=M y x
  rcases he with rfl | rfl
  .exact inn t.1 (ne t.1 YY) YY
  .exact inn (G.sym t.1) (ne (G.sym t.1) YY) YY
 .have X:=G.sym Y
  have c0:∀{p q:Nat},p<3->∀ps:List (Int×Int),AI dr ps->uA ps p q=false:=λ{p q} hp ps ai=>by
   refine Aj λz=>?_
   have:=(ai.lo _ z).1
   simp  at this
   lia
  have D:=Q.st 0 2 Y
  have z0:=Q.z
  unfold TT.rsn at D;rw[c0 DD _ U.ai,c0 DD _ (U.turn j ⟨B,P,g3⟩).ai]at D
  refine inn X (λe=>?_) (by simp at D;simp[*])
  rw[<- aY0 j]at e;rcases G.lnd_eq X Y e with⟨F,_⟩ | ⟨F,e2⟩ | ⟨F,_⟩
  .lia
  .exact(G.th_ne X).2.2 e2
  .exact(G.th_ne X).2.1 F
theorem Ar.lift (j:Dw m dr tr)(Y:Ar m dr ps)(g:TT.Rn (pA ps) x y z)(k:TT.Si (TT.trn dr) s x y z):∃H,TT.Po (TT.trn dr) (uA ps) (uA (sp (tw ps (wys x y z)))) H/\1<=sm (sg s) m dr H:=by
 obtain⟨H,c,e,h1,_⟩:=Y.lift' j g k;exact⟨H,c,cW7 j c (sg1 s) (sg1 s) e h1⟩
theorem aN1 (k:Int)(m:Nat)(dr:AA):sm k m dr (λ_ _=>0)=0:=by
 unfold sm
 have:(X9 m dr).map (λt=>k*hI (λ_ _=>0) t)=(X9 m dr).map λ_=>(0):=Bj λt _=>by rw[dE7,Int.mul_zero]
 rw[this];induction X9 m dr with
 | nil=>rfl
 | cons a l e=>rw[Ac7,List.sum_cons,e];rfl
theorem Ar.fin (X:Dw m dr tr)(s:Bool){one:List (Int×Int)}:∀(N:Nat) {ps:List (Int×Int)} {H:Nat->Nat->Int},Ar m dr ps->TT.Po (TT.trn dr) (uA one) (uA ps) H->(∀p q,0<=sg s*H p q)->225-sm (sg s) m dr H<=(N:Int)->∃qs H',Ar m dr qs/\TT.Po (TT.trn dr) (uA one) (uA qs) H'/\(∀p q,0<=sg s*H' p q)/\∀a b c,TT.Rn (pA qs) a b c->¬TT.Si (TT.trn dr) s a b c:=by
 intro N;induction N with
 | zero=>
  intro ps H Y J M hN;refine⟨ps,H,Y,J,M,λa b c g k=>?_⟩
  obtain⟨H',j,h1⟩:=Y.lift X g k;have R:=Y3 (sg s) m dr H H';have h3:=aI2 X (J.trans j) (sg1 s)
  lia
 | succ N F=>
  intro ps H Y J M hN;by_cases Q:∃a b c,TT.Rn (pA ps) a b c/\TT.Si (TT.trn dr) s a b c
  .obtain⟨a,b,c,g,k⟩:=Q;obtain⟨H',j,U,D,_⟩:=Y.lift' X g k;have h1:=cW7 X j (sg1 s) (sg1 s) U D;have R:=Y3 (sg s) m dr H H';refine F (Y.turn X g) (J.trans j) (λp q=>?_) (by rw[R];lia)
   rw[Int.mul_add];have B:=M p q;have P:0<=sg s*H' p q:=by
    rcases U p q with e | e
    .rw[e];simp
    .rw[e];cases s <;> decide
   lia
  .exact⟨ps,H,Y,J,M,λa b c g k=>Q ⟨a,b,c,g,k⟩⟩
theorem Ar.uniq (e:Dw m dr tr)(s:Bool)(a:Ar m dr ps)(b:Ar m dr qs)(j:∀x y z,TT.Rn (pA ps) x y z->¬TT.Si (TT.trn dr) s x y z)(c:∀x y z,TT.Rn (pA qs) x y z->¬TT.Si (TT.trn dr) s x y z):ps=qs:=
 a.eq b (a.o3.uniq e.good e.rs b.o3 (b.o3.thin e.rs (bX8 e).o3 e.thin) s j c)
end
def gS (m:Nat)(dr:AA)(s:Bool):AF->Bool
 | [a,b,c]=>decide (lf m dr a.toNat b.toNat c.toNat=s)
 | _=>false
def fSd (m:Nat)(dr:AA)(s:Bool):PyData->Option PyData
 | .tuple [.int a,.int b,.int c]=>if gS m dr s [a,b,c] then some (tI [a,b,c]) else none
 | _=>none
theorem cE3 (m:Nat)(e:AA)(s:Bool):∀L:AC,(∀v∈L,v.length=3)->(L.map tI).filterMap (fSd m e s)=(L.filter (gS m e s)).map tI
 | [],_=>rfl
 | v::L,h=>by
  obtain⟨a,b,c,rfl⟩:∃a b c,v=[a,b,c]:=by
   have:=h v SS
   match v,this with
   | [a,b,c],_=>exact⟨a,b,c,rfl⟩
  rw[Ac7,Be,cE3 m e s L λv j=>h v (by simp[j]),List.filter_cons]
  rw[show fSd m e s (tI [a,b,c])=(if gS m e s [a,b,c] then some (tI [a,b,c]) else none) from rfl]
  cases gS m e s [a,b,c] <;> rfl
theorem dP1:∀x y:Bool,PyData.eqv (.bool x) (.bool y)=decide (x=y):=by decide
theorem dK6 (b:Bool):Fit (.bool b):=⟨rfl,by simp[PyData.depth]⟩
def dX5 (ds:AG)(post:PyData->Prop):Prop:=∃(m:Nat) (dr tr:AA) (one:List (Int×Int)) (cs:AF),Dw m dr tr/\Ar m dr one/\cs.length<=63/\ds=[.tuple (one.map pD),lI cs]/\post=λd=>∃ps,d=.tuple (ps.map pD)/\Ar m dr ps
section
variable {P:Program}{w:World}{K:Frag}{mg:Str->Option Value}{base:Heap}{a:Ad}
theorem eB0 (T:Tx K mg a):J6 P w K mg base CX0 2 a.aQ5 a.aO0 ["_law_arrows_here", "_law_cells"] (spX K dX5):=by
 have e := @dM3 P w K mg base a T
 have Y := @dN0 P w K mg base a T
 have X := @aQ4 P w K mg base a T
 refine T.aP2.F.ok Q3 (eE3 (by rintro ds d ⟨_,_,_,_,_,_,_,_,rfl,_⟩;rfl)) (λcdv A D s H vs Q E M h=>?_)
 obtain⟨ds,S,post,hS,r,⟨m,dr,tr,one,cs,dw,U,hcl,rfl,rfl⟩,q⟩:=h;refine⟨_,(A6 (J5 Al rfl (bW0 true K rfl T.j4 (A0 (pv 1) A4)) (i9 rfl (E7 (pgN 2 Q3) (E7 (pgN 3 Q3) T3))) (A6 (psS 4 Q3 (pcl e M T.R9 (A0 (pv 0) A4)))
   (A9 (N0 (C3 aI9 (B4 (aK1 K) RR T.O4 Av (A0 (pv 4) A4)) A8 (E9 _)) (A9 (psS 0 Q3 (pcl Y M T.R6 (A0 (pv 0) (A0 (B5 (ixK K) (pv 4) (B7 Z7 (pcl X M T.T1 (A0 (pv 3) (A0 (B7 H9 A8 (pv 2)) A4))) (B4 (aK1 K) RR T.O4 Av (A0 (pv 4) A4)))) A4))))) F0))))
   (A9 (C0 (pv 0)))),cT1 hS r ?_ q⟩
 refine B1 (N2 (cE9 true (A3 (A5 rfl) A7)) (λk ρ=>∃ps B x3 x4,(Ar m dr ps)/\ρ=[.val (.tuple (ps.map pD)),.val (lI cs),B,x3,x4]) ⟨one,.no,.no,.no,U,rfl⟩ ?_ ?_)
 .rintro k d _ hd ⟨ps,B,x3,x4,U,rfl⟩;obtain⟨y,R,rfl⟩:=bQ0 hd;have hkl:k<cs.length:=by have:=(Ab0.mp R).1;simpa using this
  rw[Aa9]at R;obtain⟨c,hc,rfl⟩:=Ay.mp R;refine⟨_,aD5 (G4 B6 (G4 B6 Z4)),?_⟩;refine B1 (E1 (M4 (A3 (A5 rfl) A7) ⟨dr,ps,U.ai,rfl,rfl⟩) ?_ (show 4<5 by decide))
  refine bH6 (i:=4) rfl ?_;have hL:(R4 (rgL ps)).length<64:=by rw[(C8 _).length_eq];exact aW5 U.ai
  refine X2 (C2 (aB2 (P4 (A3 (A5 rfl) A7)) (B0))) (λh=>?_) (λh=>G6 ⟨ps,_,_,_,U,rfl⟩)
  have hpos:0<(R4 (rgL ps)).length:=by have:=Ap h;rw[Aa3]at this;simp_all
  obtain⟨j,hj⟩:∃j:Nat,mx c (70+k) % (((R4 (rgL ps)).map tI).length)=j:=⟨(mx c (70+k) % (((R4 (rgL ps)).map tI).length)).toNat,by have:=Ci (mx c (70+k)) (b:=(((R4 (rgL ps)).map tI).length)) (by rw[Aa3];lia);lia⟩
  have J:j<(R4 (rgL ps)).length:=by have:=Cp (mx c (70+k)) (b:=(((R4 (rgL ps)).map tI).length)) (by rw[Aa3];simp[*]);rw[Aa3]at this hj;simp_all
  obtain⟨x,y,z,ev,g,_,_⟩:=U.ring ((C8 _).mem_iff.mp (Di J));have hl21:=U.ai.len;exact F3 (C6 (A3 (A5 rfl) (A3 (D8 (A5 rfl) (e_i (C6 (A3 (A5 rfl) (A3 (L8 (B0) (A5 rfl)) A7)) ⟨c,70+k,LL,rfl,rfl⟩) (P4 (A3 (A5 rfl) A7)) (by rw[Aa3];simp[*])) rfl (M6 j hj (by rw[Aa9,Aa2 J,ev];rfl))) A7)) ⟨ps,x,y,z,aK6,rfl,rfl⟩) ⟨sp (tw ps (wys x y z)),_,_,_,U.turn dw g,rfl⟩
 .rintro _ ⟨ps,B,x3,x4,U,rfl⟩;exact K0 (A5 rfl) ⟨ps,rfl,U⟩
end
end K37
namespace LR
open PySem PyProof.Rows
end LR
namespace LV
open PySem PySem.Spec PyProof.Rows L2
section
variable {K:Frag}{ρ ρ':List Sl}{m:Bool}{t ta tb:TE}{d d':PyData}{ds es:AG}
def RtT (K:Frag)(S:Addr->Prop)(B:Hp)(post:OT->Prop)(D:bF1):Prop:=
 ∀v u L H',Same B H'->(∀b∈L,B b=none)->L.Nodup->Dp K (hid (λb=>S b\/b∈L) H') H' v u L->post u->D.rt v H'
def WT (K:Frag)(t:TS)(ρ:List Sl)(R:AE)(post:OT->Prop):Prop:=
 ∀(S:Addr->Prop) (B:Hp) (D:bF1) (σ:L2.St) (H:Hp) (o:Nat->AM),Env K S B H σ ρ o->Sat K S B R D->RtT K S B post D->t D σ H
theorem aC7 {t u:TS}(h:W K t ρ {R with nx:=λρ'=>WT K u ρ' R post}):WT K (dG2 t u) ρ R post:=λS B D σ H o I s r=>
 h S B {D with nx:=u D} σ H o I ⟨λρ' Y e c j w=>w S B D Y e c j s r,s.rt,s.rl,s.bk,s.ct⟩
theorem eD9 {t:TS}(h:W K t ρ R):WT K t ρ R post:=λS B D σ H o I s _=>h S B D σ H o I s
theorem aZ9:∀{ds:AG} {xs:List V},Reps K Z xs ds->Dps K Z H xs (ds.map OT.leaf) []
 | [],_,r=>by cases r;exact .nil
 | d::ds,_,r=>by
  cases r with
  | cons a b=>exact .cons (.leaf a) (aZ9 b)
theorem cI1 (hi:ρ[i]? = some (.own ds))(h:E K true t ρ d)(hp:post (.tup [.lst (ds.map OT.leaf),.leaf d])):WT K (cP4 (bQ4 (E8 (F6 i) (E8 t R3)))) ρ R post:=λS B D σ H o I s r=>by
 obtain⟨p,j,a,xs,b,c⟩:=I.own i ds hi;refine⟨_,a,h S B σ H o I _ λv H1 Y J=>⟨by show 2<=sizeLine;decide,λq U=>?_⟩⟩
 have g:=D9 (o:=.tup [.ref p,v]) U
 have sub:∀e,S e\/e∈[p]->E3 ρ o S e:=λe z=>z.elim .inl λz=>.inr ⟨i,_,hi,rfl,by rw[j];exact z⟩
 refine r _ (.tup [.lst (ds.map OT.leaf),.leaf d]) [p] _ (L2.Same.tr I.base (L2.Same.tr Y g)) (λe X=>I.new i _ hi rfl e (by rw[j];exact X)) SS ?_ hp
 exact .tup (SqT.of C7) (.cons (L:=[p]) (L':=[]) (.lst (L:=[]) (g _ _ (Y _ _ b)) (aZ9 (c.mono (E5 (L2.Same.tr Y g) λe z _=>sub e z)))) (.cons (L:=[]) (L':=[]) (.leaf (J.mono (E5 g λe z _=>sub e z))) .nil))
def spT (K:Frag)(pre:AG->OT->Prop):Sp:=λvs H Q _=>∃(ds:AG) (S:Addr->Prop) (u:OT),(∀b,S b->∃u:HM,H b=some u.ho)/\Reps K (hid S H) vs ds/\pre ds u /\
 ∀v L H',Same H H'->(∀b∈L,H b=none)->L.Nodup->Dp K (hid (λb=>S b\/b∈L) H') H' v u L->Q v H'
theorem dX8 (h:∀ds u,pre ds u->ds.length=n):∀vs H Q E,spT K pre vs H Q E->vs.length=n:=by
 rintro vs H Q E ⟨ds,S,u,_,r,p,_⟩;rw[r.length];exact h ds u p
theorem cX0 {t:TS}(j:∀b,S b->∃u:HM,H b=some u.ho)(r:Reps K (hid S H) vs ds)(w:WT K t (sl0 N.length ds) {nx:=λ_=>False} (λx=>x=u))
  (k:∀v L H',Same H H'->(∀b∈L,H b=none)->L.Nodup->Dp K (hid (λb=>S b\/b∈L) H') H' v u L->Q v H'):t {nx:=λ_ H'=>Q .non H',rt:=Q} (L2.Y6 N vs) H:=
 w S H _ _ H _ (env0 j r) ⟨λρ' J H' X Y z=>z.elim,λv e H' s U z=>z.elim,λ_ _ _ _ _ _ _ _ z=>z.elim,λ_ _ _ _ _ z=>z.elim,λ_ _ _ _ _ z=>z.elim⟩ λv x L H' a b c e z=>k v L H' a b c (z▸e)
theorem bR0 {t:TA}(s:A K true t ρ ds)(hp:pre ds u):EFT K (o6 (spT K pre) [] X t) ρ u:=λS B σ H o I Q q=>
 s S B σ H o I _ λvs H1 e rs=>⟨ds,E3 ρ o S,u,(I.grow e).lists,by rw[Bf];exact rs,hp,λv L j J n U c=>q v L j (L2.Same.tr e J) (λb Y=>W6 e (n b Y)) U c⟩
end
end LV
namespace L2
open PySem PySem.Spec PyProof.Rows
end L2
namespace LV
open PySem L2
section
variable {K:Frag}{ρ:List Sl}
theorem dK4 (h:LV.T K c ρ b)(h1:b=true->WT K t ρ R post)(m:b=false->WT K u ρ R post):WT K (dH5 c t u) ρ R post:=λS B D σ H o I s r=>
 h S B σ H o I _ λe j=>by
  cases b with
  | true=>exact h1 rfl S B D σ e o (I.grow j) s r
  | false=>exact m rfl S B D σ e o (I.grow j) s r
theorem cR7 (P:Nat->List Sl->Prop)(h0:∃k,P k ρ)
  (turn:∀k ρ',P k ρ'->∃b,T K c ρ' b/\if b=true then WT K tb ρ' {R with nx:=λρ2=>∃k',k'<k/\P k' ρ2,ct:=λρ2=>∃k',k'<k/\P k' ρ2,bk:=R.nx} post else R.nx ρ'):WT K (cD1 c tb) ρ R post:=λS B D σ H o I0 s r=>by
 obtain⟨k0,p0⟩:=h0;refine⟨λk m Y=>∃ρ' j,Env K S B Y m ρ' j/\P k ρ',⟨k0,ρ,o,I0,p0⟩,?_⟩
 rintro k m Y ⟨ρ',j,X,p⟩;obtain⟨b,hc,F⟩:=turn k ρ' p;refine hc S B m Y j X _ λH1 s1=>?_
 cases b with
 | true=>
  exact⟨λσ2 Q=>∃k',k'<k/\∃ρ2 o2,Env K S B Q σ2 ρ2 o2/\P k' ρ2,λσ2 Q ⟨k',e,z⟩=>⟨k',e,z⟩,(F S B _ m H1 j (X.grow s1) ⟨λM σ3 H3 J U ⟨k',e,w⟩=>⟨k',e,M,J,U,w⟩,s.rt,s.rl,s.nx,λM σ3 H3 J U ⟨k',e,w⟩=>⟨k',e,M,J,U,w⟩⟩ r)⟩
 | false=>
  exact s.nx _ m H1 j (X.grow s1) F
theorem dI2 (h:WT K t ρ {R with nx:=λρ'=>WT K u ρ' R post} post):WT K (dG2 t u) ρ R post:=λS B D σ H o I s r=>
 h S B {D with nx:=u D} σ H o I ⟨λρ' m e c j w=>w S B D m e c j s r,s.rt,s.rl,s.bk,s.ct⟩ r
theorem dU7 (hi:ρ[i]? = some (.own ds))(h:WT K t (ρ.set i (.val (.list ds))) R post):WT K t ρ R post:=λS B D σ H o I s r=>h S B D σ H o (I.frz hi (.inl ⟨rfl,rfl⟩)) s r
end
end LV
namespace L2
open PySem PySem.Spec PyProof.Rows
end L2
namespace LV
open PySem PySem.Spec PyProof.Rows L2
end LV
set_option maxHeartbeats 1000000
namespace K37
open PySem L2 LV PyProof.Rows
theorem sc_turned_to_end:B8 ["drawing", "arrows", "left", "row", "here", "such"] ["drawing", "arrows", "left"] (B3 W9):={}
def Fs (m:Nat)(dr:AA)(s:Bool)(ps:List (Int×Int)):AC:=(R4 (rgL ps)).filter (gS m dr s)
def tnv (ps:List (Int×Int))(v:AF):List (Int×Int):=sp (tw ps (wys (v.getD 0 0) (v.getD 1 0) (v.getD 2 0)))
def rw1 (m:Nat)(dr:AA)(s:Bool):Nat->List (Int×Int)->AC×List (Int×Int)
 | 0,ps=>([],ps)
 | k+1,ps=>match Fs m dr s ps with
  | []=>([],ps)
  | v::_=>(v::(rw1 m dr s k (tnv ps v)).1,(rw1 m dr s k (tnv ps v)).2)
theorem cJ0 (h:Fs m dr s ps=[]):∀k,rw1 m dr s k ps=([],ps)
 | 0=>rfl
 | k+1=>by unfold rw1;rw[h]
theorem bT9 (h:Fs m dr s ps=v::F)(k:Nat):rw1 m dr s (k+1) ps=(v::(rw1 m dr s k (tnv ps v)).1,(rw1 m dr s k (tnv ps v)).2):=by
 rw[rw1];rw[h]
abbrev Stp:=Nat×Nat×Nat×Bool
def tri (v:Stp):AF:=[(v.1:Int),(v.2.1:Int),(v.2.2.1:Int)]
section
variable {m:Nat}{dr tr:AA}{ps qs one two es:List (Int×Int)}{s:Bool}
theorem Fs_mem:v∈Fs m dr s ps↔v∈rgL ps/\gS m dr s v=true:=by unfold Fs;rw[Ah,(C8 _).mem_iff]
theorem dG1 (j:Dw m dr tr)(e:Ar m dr ps)(h:v∈Fs m dr s ps):∃x y z:Nat,v=tri (x,y,z,s)/\TT.Rn (pA ps) x y z/\x<y/\x<z/\TT.Si (TT.trn dr) s x y z/\tnv ps v=sp (tw ps (wys x y z)):=by
 obtain⟨h1,X⟩:=Fs_mem.mp h;obtain⟨x,y,z,rfl,g,c,Y⟩:=e.ring h1;exact⟨x,y,z,rfl,g,c,Y,(e.lf j g).mpr (Ap X),rfl⟩
theorem cW0 (j:Dw m dr tr)(e:Ar m dr ps)(h:Fs m dr s ps=[]):∀a b c,TT.Rn (pA ps) a b c->¬TT.Si (TT.trn dr) s a b c:=
 e.none j λx y z Y X=>by
  have:=Fs_mem.mpr ⟨Y,Am X⟩
  rw[h]at this;cases this
theorem bQ2 (j:Dw m dr tr)(c:Ar m dr ps)(U:TT.Po (TT.trn dr) (uA one) (uA ps) H)(h:Fs m dr s ps=v::F):∃(x y z:Nat) (H':Nat->Nat->Int),v=tri (x,y,z,s)/\TT.Rn (pA ps) x y z/\TT.Si (TT.trn dr) s x y z/\tnv ps v=sp (tw ps (wys x y z))/\Ar m dr (tnv ps v)/\TT.Po (TT.trn dr) (uA one) (uA (tnv ps v)) H'/\sm (sg s) m dr H+1<=sm (sg s) m dr H'/\sm (sg s) m dr H'<=225:=by
 obtain⟨x,y,z,rfl,g,M,R,X,Y⟩:=dG1 j c (show v∈Fs m dr s ps by rw[h];simp)
 obtain⟨H',e,h1⟩:=c.lift j g X;have J:=Y3 (sg s) m dr H H';refine⟨x,y,z,_,rfl,g,X,Y,?_,?_,?_,aI2 j (U.trans e) (sg1 s)⟩
 .rw[Y];exact c.turn j g
 .rw[Y];exact U.trans e
 .rw[J];simp[*]
theorem dJ5 (j:Dw m dr tr):∀(k:Nat) {ps:List (Int×Int)} {H:Nat->Nat->Int},Ar m dr ps->TT.Po (TT.trn dr) (uA one) (uA ps) H->225-sm (sg s) m dr H<=(k:Int)->Ar m dr (rw1 m dr s k ps).2/\∀a b c,TT.Rn (pA (rw1 m dr s k ps).2) a b c->¬TT.Si (TT.trn dr) s a b c:=λk=>by
 induction k with
 | zero=>
  intro ps H e X R;cases h:Fs m dr s ps with
  | nil=>exact⟨e,cW0 j e h⟩
  | cons v F=>
   obtain⟨x,y,z,J,_,_,_,_,_,_,h1,M⟩:=bQ2 j e X h
   lia
 | succ k Q=>
  intro ps H e X R;cases h:Fs m dr s ps with
  | nil=>rw[cJ0 h];exact⟨e,cW0 j e h⟩
  | cons v F=>
   obtain⟨x,y,z,J,_,_,_,_,Y,U,h1,M⟩:=bQ2 j e X h;rw[bT9 h];exact Q Y U LL
theorem Ar.end_ (Y:Dw m dr tr)(s:Bool)(J:Ar m dr ps)(j:Ar m dr qs):Ar m dr (rw1 m dr s 225 ps).2/\(∀a b c,TT.Rn (pA (rw1 m dr s 225 ps).2) a b c->¬TT.Si (TT.trn dr) s a b c)/\∃H,TT.Po (TT.trn dr) (uA qs) (uA (rw1 m dr s 225 ps).2) H/\∀p q,0<=sg s*H p q:=by
 obtain⟨h1,R⟩:=dJ5 Y 225 J TT.Po.refl (by rw[aN1];decide)
 obtain⟨es,H,X,Q,M,U⟩:=Ar.fin Y s 225 j TT.Po.refl (λp q=>by simp) (by rw[aN1];decide)
 have e:=h1.uniq Y s X R U
 rw[e];exact⟨X,U,H,Q,M⟩
end
def cW2 (ds:AG)(u:OT):Prop:=∃(m:Nat) (dr tr:AA) (ps:List (Int×Int)) (s:Bool),Dw m dr tr/\Ar m dr ps/\ds=[tD dr,.tuple (ps.map pD),.bool s]/\u=.tup [.lst (((rw1 m dr s 225 ps).1.map tI).map OT.leaf),.leaf (.tuple ((rw1 m dr s 225 ps).2.map pD))]
section
variable {P:Program}{w:World}{K:Frag}{mg:Str->Option Value}{base:Heap}{a:Ad}
theorem dM7 (T:Tx K mg a):J6 P w K mg base CX0 8 a.aA4 a.aA5 ["drawing", "arrows", "left"] (spT K cW2):=by
 have U := @cO3 P w K mg base a T
 have J := @eE2 P w K mg base a T
 have Y := @eC2 P w K mg base a T
 refine T.X1.F.ok sc_turned_to_end (dX8 (by rintro ds d ⟨_,_,_,_,_,_,_,rfl,_⟩;rfl)) (λcdv A outer s' H vs Q E hr h=>?_)
 obtain⟨ds,S,u,hS,r,⟨m,j,tr,ps,s,B,ar0,rfl,rfl⟩,q⟩:=h;refine⟨_,(A6 (psS 3 sc_turned_to_end (C4 A4))
   (A6 (psS 4 sc_turned_to_end (pv 1))
   (A9 (Y7 Al (P3 Y2) (A6 (v9 (i:=5) sc_turned_to_end.nd rfl rfl (T:=["ring"]) (is:=[0,2]) rfl (.of rfl) (O2 (pcl J hr T.cF6 (A0 (pv 0) (A0 (pv 4) A4)))) (G3 DD) λ_ _ _ _=>⟨(E2 (i:=0) (by decide +kernel:(["ring", "drawing", "left"]:AJ).Nodup) rfl (Or.inl rfl)),(U1 (C3 (bP1 K hr) (pcl Y hr T.bI9 (A0 (pv 1) (A0 (pv 0) A4))) (pv 2) (E9 _))),(pv 0)⟩)
   (A6 (N0 (C3 aZ6 (B4 (aK1 K) RR T.O4 Av (A0 (pv 5) A4)) A8 (E9 _)) (A9 (C0 (D0 (A0 (pv 3) (A0 (pv 4) A4))))) F0)
   (A6 (E4 (G7 Ab1 Ag Af D3 (pv 3) (A0 (B5 (ixK K) (pv 5) A8) A4)))
   (A9 (psS 4 sc_turned_to_end (pcl U hr T.bR3 (A0 (pv 0) (A0 (pv 4) (A0 (B5 (ixK K) (pv 5) A8) A4))))))))))))),cX0 hS r ?_ q⟩
 have m7:=B.m7
 have hdl:=B.len
 refine aC7 (E1 (E6 A7) ?_ (show 3<6 by decide))
 refine aC7 (F3 (A5 rfl) ?_);refine cR7 (λk ρ=>∃(c:List (Int×Int)) (L:AC) (H:Nat->Nat->Int) (x5:Sl),Ar m j c/\TT.Po (TT.trn j) (uA ps) (uA c) H/\225-sm (sg s) m j H<=k/\L.length+k<=225/\L++(rw1 m j s k c).1=(rw1 m j s 225 ps).1/\(rw1 m j s k c).2=(rw1 m j s 225 ps).2/\ρ=[vD j,.val (.tuple (ps.map pD)),.val (.bool s),.own (L.map tI),.val (.tuple (c.map pD)),x5]) ⟨225,ps,[],λ_ _=>0,.no,ar0,TT.Po.refl,by rw[aN1];decide,Aa7 _,rfl,rfl,rfl⟩ ?_
 rintro k _ ⟨c,L,Hh,x5,R,po,hjk,hLk,e1,e2,rfl⟩;refine⟨true,t_b bS0,?_⟩;rw[Ac rfl];have hl:=R.ai.len;have hL:(R4 (rgL c)).length<64:=by rw[(C8 _).length_eq];exact aW5 R.ai
 have cm:=F8 (K:=K) (m:=true) (g:=F4 0) (te:=F6 0) (fSd m j s) (T7 (EF.e' (M4 (pre:=dN3) (X:=E0) (A3 v0 (A3 v4 A7)) ⟨j,c,R.ai,LL,rfl,rfl⟩))) (by rw[Aa3];unfold sizeLine;exact dX7) (λd hd=>by
   obtain⟨v,hv,rfl⟩:=Aa8.mp hd;obtain⟨x,y,z,rfl,g,_,_⟩:=R.ring ((C8 _).mem_iff.mp hv);refine⟨_,B6,?_⟩;have e:=dA8 (K:=K) (m:=false) (ρ:=(slC [vD j,.val (.tuple (ps.map pD)),.val (.bool s),.own (L.map tI),.val (.tuple (c.map pD)),x5] 1 [0,2]).set 0 (.val (tI [x,y,z]))) (C6 (pre:=dN2) (X:=E0) (A3 v1 (A3 v0 A7)) ⟨m,j,tr,x,y,z,B,R.tri g,rfl,rfl⟩) v2 (dK6 _) (dK6 _);rw[dP1]at e;show match (if gS m j s [x,y,z] then some (tI [x,y,z]) else none) with | none=>_ | some y=>_
   have eg:gS m j s [x,y,z]=decide (decide (cL (TT.lnd (TT.trn j) x y)∈cB2 m j x y z)=s):=rfl
   cases h:gS m j s [x,y,z] with
   | true=>rw[<- eg,h]at e;exact⟨C2 e,A5 rfl⟩
   | false=>rw[<- eg,h]at e;exact C2 e)
 rw[cE3 m j s _ λv hv=>cO6 v ((C8 _).mem_iff.mp hv)]at cm
 have hF:(R4 (rgL c)).filter (gS m j s)=Fs m j s c:=rfl
 rw[hF]at cm;have hFl:(Fs m j s c).length<64:=by rw[<- hF];exact Dk (List.length_filter_le _ _) hL
 refine aC7 (E1 cm ?_ (show 5<6 by decide))
 refine dU7 (i:=5) rfl (dI2 ?_);cases M:Fs m j s c with
 | nil=>
  refine dK4 (C2 (aA3 (P4 (ds:=[]) (A3 (A5 rfl) A7)) (B0))) (λ_=>?_) (λh=>by cases h)
  refine cI1 rfl (A5 rfl) ?_;rw[cJ0 M]at e1 e2;rw[<- e1,<- e2,Bf]
 | cons v F=>
  rw[M]at hFl;have ht:=C2 (aA3 (K:=K) (ρ:=[vD j,.val (.tuple (ps.map pD)),.val (.bool s),.own (L.map tI),.val (.tuple (c.map pD)),.val (.list ((v::F).map tI))]) (P4 (A3 v5 A7)) (B0 (i:=0)));rw[show decide ((((v::F).map tI).length:Int)=0)=false from Aj (by rw[Aa3,Au];lia)]at ht
  refine dK4 ht (λh=>by cases h) (λ_=>eD9 (G6 ?_))
  obtain⟨x,y,z,H',rfl,g,hs,et,D,po',m1,m2⟩:=bQ2 B R po M;rw[et]at D po';obtain⟨k',rfl⟩:∃k',k=k'+1:=⟨k-1,LL⟩
  rw[bT9 M,et]at e1 e2;refine aC7 (J4 rfl (LV.E.imm (D8 (m:=true) (A5 rfl) (B0) rfl (M6 0 rfl rfl))) ?_ ?_)
  .rw[Aa3];unfold sizeLine;lia
  refine eD9 (F3 (C6 (A3 (A5 rfl) (A3 (A5 rfl) (A3 (LV.E.imm (D8 (m:=true) (A5 rfl) (B0) rfl (M6 0 rfl rfl))) A7))) ⟨m,j,tr,c,x,y,z,B,R.tri g,aK6,rfl,Rn.ws g,rfl⟩) ⟨k',SS,sp (tw c (wys x y z)),L++[tri (x,y,z,s)],H',.val (.list ((tri (x,y,z,s)::F).map tI)),D,po',LL,QQ,?_,e2,?_⟩)
  .rw[Ad7];exact e1
  .rw[Ad2];rfl
end
end K37
namespace TT
open Classical
section
variable {r:Nat->AD}{n:Nat}{R:Nat->Prop}
theorem V1 {l u w m:AD}(e:l.Nodup)(j:l=u++w)(c:w++u=m):m.Nodup:=by
 rw[<- c];rw[j]at e;exact(Ca.nodup_iff).mp e
theorem P9 {l u w m:AD}(e:l=u++w)(j:w++u=m)(q:Nat):q∈m↔q∈l:=by
 rw[<- j,e,Aa0,Aa0];exact Or.comm
theorem V5 (e:l=u++w)(j:w++u=m)(a b:Nat):adj m a b↔adj l a b:=by
 rw[<- j,e];exact V6 u w a b
theorem u8 {s:Nat}(j:(A++s::B).Nodup)(e:A++s::B=C++s::D):A=C/\B=D:=by
 have m:=F1 j rfl
 have Y:=F1 j e
 have c:A.length=C.length:=by lia
 have:=List.append_inj e c
 exact⟨this.1,by simpa using this.2⟩
theorem bW6 {s:Nat}(Q:l.Nodup)(e:l=x1++s::x2)(M:l=u++w)(c:w++u=A++s::B):(s::x2)++x1=s::(B++A):=by
 have nd2:(w++u).Nodup:=V1 Q M rfl
 by_cases h:s∈w
 .obtain⟨w1,w2,F⟩:=Ad5 h;have m:x1++s::x2=(u++w1)++s::w2:=by rw[<- e,M,F];simp
  have j:w1++s::(w2++u)=A++s::B:=by rw[<- c,F];simp
  obtain⟨Y,X⟩:=u8 (by rw[<- e];exact Q) m
  obtain⟨U,J⟩:=u8 (by rw[j,<- c];exact nd2) j
  rw[Y,X,<- U,<- J];simp
 .have hu:s∈u:=by
   have:s∈w++u:=by rw[c];simp
   rcases Aa0.mp this with h' | h'
   .exact absurd h' h
   .exact h'
  obtain⟨P,u2,D⟩:=Ad5 hu;have m:x1++s::x2=P++s::(u2++w):=by rw[<- e,M,D];simp
  have j:(w++P)++s::u2=A++s::B:=by rw[<- c,D];simp
  obtain⟨Y,X⟩:=u8 (by rw[<- e];exact Q) m
  obtain⟨U,J⟩:=u8 (by rw[j,<- c];exact nd2) j
  rw[Y,X,<- U,<- J];simp
theorem eB4 (U:l.Nodup)(s:l=u++w)(m:w++u=a::(J++p::O))(h:adj l t p)(c:t≠a):∃J',J=J'++[t]:=by
 have nd':=V1 U s m
 have Y:=(V5 s m t p).mpr h
 rcases Ac5 J with j | ⟨J',X,j⟩
 .subst j
  have:adj (a::([]++p::O)) a p:=adj_iff.mpr (.inl ⟨[],O,rfl⟩)
  exact absurd (e8 nd' Y this) c
 .subst j
  have:adj (a::(J'.concat X++p::O)) X p:=adj_iff.mpr (.inl ⟨a::J',O,SS⟩)
  have e:=e8 nd' Y this
  subst e;exact⟨J',SS⟩
theorem eH2 (X:l.Nodup)(c:l=u++w)(s:w++u=p::(J++b::O))(h:adj l p t)(j:t≠b):∃J',J=t::J':=by
 have nd':=V1 X c s
 have m:=(V5 c s p t).mpr h
 cases J with
 | nil=>
  have:adj (p::([]++b::O)) p b:=adj_iff.mpr (.inl ⟨[],O,rfl⟩)
  exact absurd (Q7 nd' m this) j
 | cons Y J'=>
  have:adj (p::(Y::J'++b::O)) p Y:=adj_iff.mpr (.inl ⟨[],J'++b::O,rfl⟩)
  have e:=Q7 nd' m this
  subst e;exact⟨J',rfl⟩
theorem eB7 (nd:l.Nodup)(h1:adj l p a)(B:adj l b p)(s:a≠b):∃M u w,l=u++w/\w++u=a::(M++b::[p]):=by
 obtain⟨u,w,e⟩:=Ad5 (B2 h1).2;have m:(a::w)++u=a::(w++u):=rfl;have nd':=V1 nd e m;have c:=(V5 e m p a).mpr h1;have j:=(V5 e m b p).mpr B;rcases Ac5 (w++u) with Y | ⟨M,U,Y⟩
 .rw[Y]at j c nd';have X:=(B2 j).1;have m2:=(B2 j).2;simp at X;exact absurd X.symm s
 .rw[Y]at c j nd'
  have:adj (a::M.concat U) U a:=adj_iff.mpr (.inr ⟨a::M,SS,rfl⟩)
  have F:=e8 nd' c this
  subst F;have D:a::M.concat p=a::(M++p::[]):=by simp
  rw[D]at j nd';obtain⟨Q,P⟩:=eB4 (J:=M) (l:=a::(M++[p])) (u:=[]) (w:=a::(M++[p])) (O:=[]) nd' rfl SS j (Ne.symm s)
  exact⟨Q,u,a::w,e,by rw[m,Y,P];simp⟩
theorem bN8 (j:(X++a::p::b::Y).Nodup)(h:adj (X++a::(I++b::Y)) s q):(adj (X++a::p::b::Y) s q/\s≠p/\q≠p)\/lin (a::(I++[b])) s q:=by
 obtain⟨c,Q⟩:∃c,(X++[a]).take 1=[c]:=by cases X <;> simp
 have U:c∈X++[a]:=by
  have:=Bk (l:=X++[a]) (i:=1) (a:=c) (by rw[Q];simp)
  exact this
 have B:∀Z,(X++a::Z).take 1=[c]:=λZ=>by
  rw[show X++a::Z=(X++[a])++Z by simp,Du SS];exact Q
 unfold adj at h ⊢;rw[B]at h ⊢;have D:X++a::(I++b::Y)++[c]=X++a::(I++b::(Y++[c])):=by simp
 have F:X++a::p::b::Y++[c]=X++a::p::b::(Y++[c]):=by simp
 rw[D,B9]at h;have h:lin (X++[a]) s q\/lin ((a::I)++[b]) s q\/lin (b::(Y++[c])) s q:=by
  rcases h with h | h
  .exact .inl h
  .rw[show a::(I++b::(Y++[c]))=(a::I)++b::(Y++[c]) by simp]at h
   exact .inr ((B9 b (Y++[c]) s q (a::I)).mp h)
 rw[F,B9,C5,C5];have J:∀t,t∈X++[a]->t≠p:=λt ht e=>by
  subst e;rw[show X++a::t::b::Y=(X++[a])++t::b::Y by simp]at j
  exact(Aa4.mp j).2.2 t ht t SS rfl
 have M:∀t,t∈b::Y->t≠p:=λt ht e=>by
  subst e;rw[show X++a::t::b::Y=(X++[a])++t::b::Y by simp]at j
  have:=(Aa4.mp j).2.1
  rw[Aa5]at this;exact this.1 ht
 rcases h with h | h | h
 .have m:=X6 h
  exact .inl ⟨.inl h,J s m.1,J q m.2⟩
 .exact .inr (by simpa using h)
 .have m:=X6 h
  have fin:∀t,t∈b::(Y++[c])->t≠p:=λt ht=>by
   rw[show b::(Y++[c])=(b::Y)++[c] by simp,Aa0]at ht
   rcases ht with ht | ht
   .exact M t ht
   .rw[Ad8.mp ht];exact J c U
  exact .inl ⟨.inr (.inr (.inr h)),fin s m.1,fin q m.2⟩
theorem Tk.off (G:Good n r)(T:Tk r n (X++a::p::b::Y) R)(hf:∀q∈X++a::p::b::Y,q∈r p->q=a\/q=b)(e1:r p=u++w)(e2:w++u=a::(I++b::O))(hI:∀q∈I,¬R q)(hO:∀q∈O,R q)(hO':O≠[]) :
  Tk r n (X++a::(I++b::Y)) (λq=>R q\/q=p):=by
 have U:=T.nd
 have ndp:=V1 (G.nd p) e1 e2
 have mp:=λq=>P9 e1 e2 q
 have h3:3<=(X++a::p::b::Y).length:=by simp;lia
 have pm:p∈X++a::p::b::Y:=by simp
 have am:a∈X++a::p::b::Y:=by simp
 have bm:b∈X++a::p::b::Y:=by simp
 have m:∀q∈I,q∉X++a::p::b::Y:=λq Q hm=>by
  have:q∈r p:=(mp q).mp (by simp[Q])
  have nd':=ndp
  simp only[Aa5,Aa4,Aa0,Aa1,not_or]at nd';rcases hf q hm this with rfl | rfl
  .exact nd'.1.1 Q
  .exact nd'.2.2.2 q Q q (.inl rfl) rfl
 have Ip:∀q∈I,q≠p:=λq Q e=>m q Q (e▸pm)
 have old:∀q,q∈X++a::(I++b::Y)->q∈I\/(q∈X++a::p::b::Y/\q≠p):=λq Q=>by
  have:∀t,t∈X++a::b::Y->t≠p:=λt ht e=>by
   subst e;have nd':=U;simp only[Aa5,Aa4,Aa0,Aa1,not_or]at nd' ht;grind
  simp only[Aa0,Aa1]at Q;rcases Q with h | h | h | h | h
  .exact .inr ⟨by simp[h],this q (by simp[h])⟩
  .exact .inr ⟨by simp[h],this q (by simp[h])⟩
  .exact .inl h
  .exact .inr ⟨by simp[h],this q (by simp[h])⟩
  .exact .inr ⟨by simp[h],this q (by simp[h])⟩
 have adjap:adj (X++a::p::b::Y) a p:=adj_iff.mpr (.inl ⟨X,b::Y,rfl⟩)
 have adjpb:adj (X++a::p::b::Y) p b:=adj_iff.mpr (.inl ⟨X++[a],Y,SS⟩)
 have j:∀{s q},lin (a::(I++[b])) s q->adj (r p) s q:=λ{s q} h=>(V5 e1 e2 s q).mp (by
  rw[show a::(I++b::O)=(a::(I++[b]))++O by simp];exact aK2 h)
 have nR:∀q,q∈X++a::p::b::Y->q≠p->¬(R q\/q=p):=λq Q B h=>h.elim (T.out q Q) B
 refine⟨?_,?_,λq Q=>?_,λq Q=>?_,λh3' s q t hs ht=>?_,λq Q hR hn t ht=>?_,λc hc=>?_⟩
 .have ndI:I.Nodup:=by
   simp only[Aa5,Aa4]at ndp;exact ndp.2.1
  have nd':=U
  simp only[Aa5,Aa4,Aa0,Aa1,not_or]at nd' ⊢;have hh:∀q∈I,q∉X/\q≠a/\q≠b/\q∉Y:=λq Q=>by
   have:=m q Q
   simp only[Aa0,Aa1,not_or]at this;grind
  grind
 .obtain⟨mid,e⟩:=T.ends;have hl:(b::Y).getLast? = some 1:=by
   have:=congrArg List.getLast? e
   rw[show X++a::p::b::Y=(X++[a,p])++(b::Y) by simp,List.getLast?_append]at this
   have e9:(0::(mid++[1])).getLast? = some 1:=by rw[show 0::(mid++[1])=(0::mid)++[1] from rfl,List.getLast?_append];rfl
   rw[e9]at this;cases h:(b::Y).getLast? with
   | none=>simp at h
   | some v=>rw[h]at this;simpa using this
  have hh:(X++[a]).head? = some 0:=by
   have:=congrArg List.head? e
   cases X with
   | nil=>simpa using this
   | cons c X=>simpa using this
  obtain⟨Z,eZ⟩:∃Z,b::Y=Z++[1]:=by
   rcases Ac5 (b::Y) with h | ⟨Z,c,h⟩
   .cases h
   .rw[h]at hl;simp at hl;exact⟨Z,by rw[h,hl];simp⟩
  obtain⟨V,eV⟩:∃V,X++[a]=0::V:=by
   cases h:X++[a] with
   | nil=>simp at h
   | cons c V=>rw[h]at hh;simp at hh;exact⟨V,by rw[hh]⟩
  refine⟨V++I++Z,?_⟩;rw[show X++a::(I++b::Y)=(X++[a])++I++(b::Y) by simp,eV,eZ];simp
 .rcases old q Q with h | ⟨h,h'⟩
  .exact λz=>z.elim (hI q h) (Ip q h)
  .exact nR q h h'
 .rcases old q Q with h | ⟨h,_⟩
  .exact G.lt p q ((mp q).mp (by simp[h]))
  .exact T.lt q h
 .rcases bN8 U hs with⟨hs,s1,s2⟩ | hs
  .rcases bN8 U ht with⟨ht,t1,t2⟩ | ht
   .
    obtain⟨J,P,u',w',F,c2,c3,c4,c5⟩:=T.at_ h3 s q t hs ht;have np:p∉r q:=λhm=>by
     rcases hf q (B2 hs).2 (G.sym hm) with rfl | rfl
     .exact t2 (Q7 U ht adjap)
     .exact s1 (e8 U hs adjpb)
    exact⟨J,P,u',w',F,c2,λk D z=>z.elim (c3 k D) λe=>np ((P9 F c2 p).mp (by rw[<- e];simp[D])),λk D=>.inl (c4 k D),c5⟩
   .
    have qm:=(B2 hs).2
    have qa:q=a:=by
     have:=M8 (u:=a::I) (c:=b) (by simpa using ht)
     rcases Aa1.mp this with h | h
     .exact h
     .exact absurd qm (m q h)
    subst qa;obtain⟨J,P,u',w',F,c2,c3,c4,c5⟩:=T.at_ h3 s q p hs adjap;have h1:adj (r q) t p:=G.tri _ _ _ (j ht);have tm:t∈I++[b]:=N8 ht;have B:t≠s:=λe=>by
     subst e;rcases Aa0.mp tm with h | h
     .exact m t h (B2 hs).1
     .have tb:t=b:=by simpa using h
      subst tb;have ap:adj (X++q::p::t::Y) t q:=hs;have lin2:∃l1 l2,X++q::(I++t::Y)=l1++q::(I++t::l2):=⟨X,Y,rfl⟩;rcases adj_iff.mp ap with⟨x1,x2,ex⟩ | ⟨x1,ex,hx⟩
      .have i1:=F1 U (show X++q::p::t::Y=(X++[q,p])++t::Y by simp)
       have i2:=F1 U (p:=x1) (u:=t) (s:=q::x2) ex
       have i3:=F1 U (p:=X) (u:=q) (s:=p::t::Y) rfl
       have i4:=F1 U (p:=x1++[t]) (u:=q) (s:=x2) (by rw[ex];simp)
       simp at i1 i2 i3 i4
       lia
      .have hX:X=[]:=by
        cases X with
        | nil=>rfl
        | cons c X=>
         rw[Ab6,List.head?_cons]at hx;have hx':c=q:=by simpa using hx
         have nd2:=U
         rw[hx',Ab6,Aa5]at nd2;exact absurd SS nd2.1
       have hY:Y=[]:=by
        rcases Ac5 Y with h | ⟨Y',g,h⟩
        .exact h
        .have e5:X++q::p::t::Y=(X++q::p::t::Y')++[g]:=by rw[h];simp
         have:=List.append_inj' (e5.symm.trans ex) rfl
         have tg:g=t:=by simpa using this.2
         have nd2:=U
         rw[e5,tg]at nd2
         have:=(Aa4.mp nd2).2.2 t SS t SS
         exact absurd rfl this
       have hIe:I=[]:=by
        cases I with
        | nil=>rfl
        | cons c I=>
         have l1:adj (r p) q c:=j (by rw[Ab6,C5];exact .inl ⟨rfl,rfl⟩)
         have l2:adj (r p) q t:=j ht
         have:c=t:=Q7 (G.nd p) l1 l2
         exact absurd bm (this▸m c SS)
       rw[hX,hY,hIe]at h3';simp at h3'
    obtain⟨J',hJ⟩:=eB4 (G.nd q) F c2 h1 B;refine⟨J',p::P,u',w',F,by rw[c2,hJ];simp,λk D z=>?_,λk D=>?_,SS⟩
    .have ndq:=V1 (G.nd q) F c2
     rcases z with z | z
     .exact c3 k (by rw[hJ];simp[D]) z
     .subst z;rw[hJ]at ndq;simp only[Aa5,Aa4,Aa0,Aa1,not_or]at ndq;grind
    .rcases Aa1.mp D with h | h
     .exact .inr h
     .exact .inl (c4 k h)
  .rcases bN8 U ht with⟨ht,t1,t2⟩ | ht
   .
    have qm:=(B2 ht).1
    have qb:q=b:=by
     have:=N8 hs
     rcases Aa0.mp this with h | h
     .exact absurd qm (m q h)
     .simpa using h
    subst qb;obtain⟨J,P,u',w',F,c2,c3,c4,c5⟩:=T.at_ h3 p q t adjpb ht;have h1:adj (r q) p s:=G.tri _ _ _ (G.tri _ _ _ (j hs));have sm:s∈a::I:=by
     have:=M8 (u:=a::I) (c:=q) (by simpa using hs)
     exact this
    have B:s≠t:=λe=>by
     subst e;rcases Aa1.mp sm with h | h
     .subst h;have ap:adj (X++s::p::q::Y) q s:=ht;rcases adj_iff.mp ap with⟨x1,x2,ex⟩ | ⟨x1,ex,hx⟩
      .have i1:=F1 U (show X++s::p::q::Y=(X++[s,p])++q::Y by simp)
       have i2:=F1 U (p:=x1) (u:=q) (s:=s::x2) ex
       have i3:=F1 U (p:=X) (u:=s) (s:=p::q::Y) rfl
       have i4:=F1 U (p:=x1++[q]) (u:=s) (s:=x2) (by rw[ex];simp)
       simp at i1 i2 i3 i4
       lia
      .have hX:X=[]:=by
        cases X with
        | nil=>rfl
        | cons c X=>
         rw[Ab6,List.head?_cons]at hx;have hx':c=s:=by simpa using hx
         have nd2:=U
         rw[hx',Ab6,Aa5]at nd2;exact absurd SS nd2.1
       have hY:Y=[]:=by
        rcases Ac5 Y with h | ⟨Y',g,h⟩
        .exact h
        .have e5:X++s::p::q::Y=(X++s::p::q::Y')++[g]:=by rw[h];simp
         have:=List.append_inj' (e5.symm.trans ex) rfl
         have tg:g=q:=by simpa using this.2
         have nd2:=U
         rw[e5,tg]at nd2
         have:=(Aa4.mp nd2).2.2 q SS q SS
         exact absurd rfl this
       have hIe:I=[]:=by
        cases I with
        | nil=>rfl
        | cons c I=>
         have l1:adj (r p) s c:=j (by rw[Ab6,C5];exact .inl ⟨rfl,rfl⟩)
         have l2:adj (r p) s q:=j hs
         have:c=q:=Q7 (G.nd p) l1 l2
         exact absurd bm (this▸m c SS)
       rw[hX,hY,hIe]at h3';simp at h3'
     .exact m s h (B2 ht).2
    obtain⟨J',hJ⟩:=eH2 (G.nd q) F c2 h1 B;have c2':w'++u'=p::(s::J'++t::P):=by rw[c2,hJ]
    have ndq:=V1 (G.nd q) F c2'
    obtain⟨u2,w2,d1,d2⟩:∃u2 w2,r q=u2++w2/\w2++u2=s::(J'++t::(P++[p])):=by
     have hm:s∈r q:=(P9 F c2' s).mp SS
     obtain⟨x1,x2,ex⟩:=Ad5 hm;refine⟨x1,s::x2,ex,?_⟩;have ru:=bW6 (G.nd q) ex F (show w'++u'=[p]++s::(J'++t::P) by rw[c2'];simp)
     rw[ru];simp
    refine⟨J',P++[p],u2,w2,d1,d2,λk D z=>?_,λk D=>?_,SS⟩
    .rcases z with z | z
     .exact c3 k (by rw[hJ];simp[D]) z
     .subst z;simp only[Ab6,Aa5,Aa4,Aa0,Aa1,not_or]at ndq;grind
    .rcases Aa0.mp D with h | h
     .exact .inl (c4 k h)
     .exact .inr (by simpa using h)
   .
    have qI:q∈I:=by
     have h1:=N8 hs
     have h2:=M8 (u:=a::I) (c:=b) (by simpa using ht)
     rcases Aa0.mp h1 with h | h
     .exact h
     .have qb:q=b:=by simpa using h
      rcases Aa1.mp h2 with h2 | h2
      .have nd':=ndp
       simp only[Aa5,Aa0,Aa1,not_or]at nd';exact absurd (h2.symm.trans qb) nd'.1.2.1
      .exact h2
    have a1:adj (r q) p s:=G.tri _ _ _ (G.tri _ _ _ (j hs))
    have a2:adj (r q) t p:=G.tri _ _ _ (j ht)
    have B:s≠t:=λe=>by
     subst e;exact aG8 (G.nd p) (by
      have h1:=(P9 e1 e2 a).mp SS
      have:(r p).length=(a::(I++b::O)).length:=by rw[<- e2,e1];simp;lia
      rw[this]
      have:0<O.length:=Cv.mpr hO'
      simp;lia) (j hs) (j ht)
    obtain⟨M,u',w',F,c2⟩:=eB7 (G.nd q) a1 a2 B;have ndq:=V1 (G.nd q) F c2;have hq0:¬R q:=hI q qI;have inner:=T.inn q (G.lt p q ((mp q).mp (by simp[qI]))) hq0 (m q qI)
    refine⟨M,[p],u',w',F,c2,λk D z=>?_,λk D=>.inr (by simpa using D),SS⟩
    rcases z with z | z
    .exact inner k ((P9 F c2 k).mp (by simp[D])) z
    .subst z;simp only[Aa5,Aa4,Aa0,Aa1,not_or]at ndq;grind
 .have hR1:¬R q:=λz=>hR (.inl z)
  have hqp:q≠p:=λz=>hR (.inr z)
  have hn1:q∉X++a::p::b::Y:=λhm=>hn (by
   simp only[Aa0,Aa1]at hm ⊢;rcases hm with h | h | h | h | h
   .exact .inl h
   .exact .inr (.inl h)
   .exact absurd h hqp
   .exact .inr (.inr (.inr (.inl h)))
   .exact .inr (.inr (.inr (.inr h))))
  rintro (z | z)
  .exact T.inn q Q hR1 hn1 t ht z
  .subst z
   have:=(mp q).mpr (G.sym ht)
   simp only[Aa1,Aa0]at this;rcases this with h | h | h | h
   .exact hn (by simp[h])
   .exact hn (by simp[h])
   .exact hn (by simp[h])
   .exact hR1 (hO q h)
 .by_cases hcR:R c
  .obtain⟨z,z1,z2,z3⟩:=T.con c hcR;exact⟨z,z1,λx y h=>⟨(z2 x y h).1,.inl (z2 x y h).2.1,.inl (z2 x y h).2.2⟩,z3⟩
  .have cp:c=p:=hc.elim (λz=>absurd z hcR) id
   subst cp;obtain⟨o,ho⟩:=List.exists_mem_of_ne_nil _ hO';have to:o∈r c:=(mp o).mp (by simp[ho])
   obtain⟨z,z1,z2,z3⟩:=T.con o (hO o ho);refine⟨λx y=>xor (ed c o x y) (z x y),λx y=>by show xor (ed c o x y) (z x y)=xor (ed c o y x) (z y x);rw[bM6,z1],λx y h=>?_,λx=>?_⟩
   .by_cases h1:ed c o x y=true
    .rcases cE0 h1 with⟨rfl,rfl⟩ | ⟨rfl,rfl⟩
     .exact⟨to,.inr rfl,.inl (hO _ ho)⟩
     .exact⟨G.sym to,.inl (hO _ ho),.inr rfl⟩
    .have h2:z x y=true:=by
      cases hz:z x y with
      | true=>rfl
      | false=>simp[h1,hz]at h
     exact⟨(z2 x y h2).1,.inl (z2 x y h2).2.1,.inl (z2 x y h2).2.2⟩
   .rw[j5,bP4 G to,z3];cases decide (x=c) <;> cases decide (x=o) <;> cases decide (x=2) <;> rfl
end
section
variable {r:Nat->AD}{n:Nat}{rim:AD}{R:Nat->Prop}
theorem Tk.first (G:Good n r):∃mid u w,r 2=u++w/\w++u=0::(mid++1::[])/\Tk r n (0::(mid++[1])) (λq=>q=2):=by
 have s:=G.out
 obtain⟨u,w,e⟩:=Ad5 (B2 s).2;have j:(0::w)++u=0::(w++u):=rfl;have nd':=V1 (G.nd 2) e j;have m:=(V5 e j 1 0).mpr s;obtain⟨mid,B⟩:∃mid,w++u=mid++[1]:=by
  rcases Ac5 (w++u) with X | ⟨M,p,X⟩
  .rw[X]at m
   have:=(B2 m).1
   simp at this
  .rw[X]at m nd'
   have:adj (0::M.concat p) p 0:=adj_iff.mpr (.inr ⟨0::M,SS,rfl⟩)
   have ep:=e8 nd' m this
   exact⟨M,by rw[X,<- ep];simp⟩
 refine⟨mid,u,0::w,e,by rw[j,B],?_⟩
 rw[B]at j nd';have mm:=λq=>P9 e j q
 have n2:=λh=>G.self 2 ((mm 2).mp h)
 refine⟨nd',⟨mid,rfl⟩,λp hp z=>n2 (z▸hp),λp hp=>G.lt 2 p ((mm p).mp hp),λh3 a p b D F=>?_,λp hp hR hn q Y z=>?_,λc hc=>?_⟩
 .have P:=(V5 e j a p).mp D
  have b1:=(V5 e j p b).mp F
  have U:a≠b:=λe=>by subst e;exact aG8 nd' h3 D F
  obtain⟨M,u',w',J,Q⟩:=eB7 (G.nd p) (G.tri _ _ _ (G.tri _ _ _ P)) (G.tri _ _ _ b1) U;have ndp:=V1 (G.nd p) J Q;refine⟨M,[2],u',w',J,Q,λq Y z=>?_,λq Y=>by simpa using Y,SS⟩
  grind
 .subst z;exact hn ((mm p).mpr (G.sym Y))
 .subst hc;exact⟨λ_ _=>false,λ_ _=>rfl,(λ_ _ h=>by cases h),λp=>by rw[i6 λ_ _=>rfl];cases decide (p=2) <;> rfl⟩
def frA (r:Nat->AD)(rim:AD)(k:Nat):Bool:=rim.all λq=>decide (q∈r (gi rim k))==(decide (q=gi rim (k-1))||decide (q=gi rim (k+1)))
def frs (r:Nat->AD)(rim:AD):AD:=(List.range (rim.length-2)).filterMap λk=>if frA r rim (k+1) then some (gi rim (k+1)) else none
def pl (r:Nat->AD)(rim:AD):Nat:=mn (frs r rim)
def cmo (t:AD)(a b:Nat):AD:=(t.drop (t.idxOf a+1)++t.take (t.idxOf a)).take ((t.drop (t.idxOf a+1)++t.take (t.idxOf a)).idxOf b)
def ix (r:Nat->AD)(rim:AD):Nat:=rim.idxOf (pl r rim)
def com (r:Nat->AD)(rim:AD):AD:=cmo (r (pl r rim)) (gi rim (ix r rim-1)) (gi rim (ix r rim+1))
def aE5 (r:Nat->AD)(rim:AD):AD:=rim.take (ix r rim)++com r rim++rim.drop (ix r rim+1)
def bK7 (r:Nat->AD)(rim o:AD):AD:=if 2<pl r rim then o++[pl r rim] else o
def bK3 (r:Nat->AD)(rim:AD)(ps:List (Nat×Nat)):List (Nat×Nat):=(ps++(com r rim).map λq=>(q,pl r rim))++(if 2<pl r rim then [(pl r rim,gi rim (ix r rim-1)),(pl r rim,gi rim (ix r rim+1))] else [])
def bD5 (r:Nat->AD):Nat->AD->AD->List (Nat×Nat)->AD×List (Nat×Nat)
 | 0,_,o,ps=>(o,ps)
 | k+1,rim,o,ps=>if rim.length<=2 then(o,ps) else bD5 r k (aE5 r rim) (bK7 r rim o) (bK3 r rim ps)
def St (r:Nat->AD)(n:Nat)(rim:AD)(R:Nat->Prop):Prop:=(rim=[0,2,1]/\∀q,¬R q)\/Tk r n rim R
theorem frA_iff:frA r rim k=true↔∀q∈rim,(q∈r (gi rim k)↔q=gi rim (k-1)\/q=gi rim (k+1)):=by
 unfold frA;rw[Ac9];have e:∀q,(decide (q∈r (gi rim k))==(decide (q=gi rim (k-1))||decide (q=gi rim (k+1))))=true↔(q∈r (gi rim k)↔q=gi rim (k-1)\/q=gi rim (k+1)):=λq=>by
  rw[beq_iff_eq,<- Bool.decide_or,Bc]
 exact⟨λh q j=>(e q).mp (h q j),λh q j=>(e q).mpr (h q j)⟩
theorem frs_mem:p∈frs r rim↔∃k,0<k/\k+1<rim.length/\frA r rim k=true/\p=gi rim k:=by
 unfold frs;rw[List.mem_filterMap];constructor
 .rintro⟨k,e,h⟩;have e:=Ab5.mp e;split at h
  .rename_i hf;exact⟨k+1,SS,OO,hf,(Ab4 h).symm⟩
  .cases h
 .rintro⟨k,h0,h1,hf,rfl⟩;refine⟨k-1,Ab5.mpr LL,?_⟩
  rw[show k-1+1=k by lia,Ac hf]
theorem dJ2 (s:rim.Nodup)(j:k<rim.length):rim.idxOf (gi rim k)=k:=by
 have c:=M9 j
 have e:=Ax.mpr c
 refine aJ5 s e j ?_;have h1:=t4 e;rw[Aa2 e]at h1;rw[<- Ab4 h1];exact List.getElem_idxOf e
theorem aG4 (s:0<i)(h1:i+1<rim.length):rim=rim.take (i-1)++gi rim (i-1)::gi rim i::gi rim (i+1)::rim.drop (i+2)/\rim.take i=rim.take (i-1)++[gi rim (i-1)]/\rim.drop (i+1)=gi rim (i+1)::rim.drop (i+2):=by
 have g:∀k (e:k<rim.length),gi rim k=rim[k]:=λk e=>by
  have:=t4 e
  rw[Aa2 e]at this;exact(Ab4 this).symm
 have d:∀k (e:k<rim.length),rim.drop k=gi rim k::rim.drop (k+1):=λk e=>by rw[g k e];exact Bu e
 refine⟨?_,?_,d (i+1) h1⟩
 .rw[<- d (i+1) h1];have c:=d i zq1;rw[<- c];have j:=d (i-1) LL
  rw[show i-1+1=i by lia]at j
  rw[<- j,Ad3]
 .have:=Dc (l:=rim) (i:=i-1)
  rw[show i-1+1=i by lia,t4 LL]at this
  simpa using this
theorem cA5 (m:t.Nodup)(c:t=u++w)(s:w++u=a::(I++b::O)):cmo t a b=I:=by
 have nd':=V1 m c s
 have Q:t.drop (t.idxOf a+1)++t.take (t.idxOf a)=I++b::O:=by
  have M:=(P9 c s a).mp SS
  obtain⟨e,Y,j⟩:=Ad5 M;have hi:=F1 m j;have X:=bW6 (A:=[]) m j c (by rw[s];rfl)
  simp at X
  rw[hi];have U:t.drop (e.length+1)=Y:=by rw[j,show e++a::Y=(e++[a])++Y by simp];exact List.drop_left' SS
  have J:t.take e.length=e:=by rw[j];exact List.take_left' rfl
  rw[U,J,X]
 unfold cmo;rw[Q]
 have:=(Aa5.mp nd').2
 rw[F1 this rfl];exact List.take_left' rfl
structure Nx (r:Nat->AD)(n:Nat)(rim:AD)(R:Nat->Prop):Prop where
 nd:rim.Nodup
 lt:∀q∈rim,q<n
 mem:pl r rim∈frs r rim
 i0:0<ix r rim
 i1:ix r rim+1<rim.length
 ip:gi rim (ix r rim)=pl r rim
 le:∀q∈frs r rim,pl r rim<=q
 ta:gi rim (ix r rim-1)∈r (pl r rim)
 tb:gi rim (ix r rim+1)∈r (pl r rim)
 out:¬R (pl r rim)
 cnd:(com r rim).Nodup
 cm:∀q∈com r rim,q<n/\q∉rim/\¬R q/\q≠pl r rim
 next:St r n (aE5 r rim) (λq=>R q\/q=pl r rim)
 row:∃O u w,r (pl r rim)=u++w/\w++u=gi rim (ix r rim-1)::(com r rim++gi rim (ix r rim+1)::O)
theorem St.nx (G:Good n r)(H:H1 r)(h:St r n rim R)(h3:2<rim.length):Nx r n rim R:=by
 have nd:rim.Nodup:=by
  rcases h with⟨rfl,_⟩ | T
  .decide
  .exact T.nd
 have lt:∀q∈rim,q<n:=by
  rcases h with⟨rfl,_⟩ | T
  .intro q s
   have:=G.three
   simp at s;lia
  .exact T.lt
 have Q:=B2 G.out
 have ne:frs r rim≠[]:=by
  rcases h with⟨rfl,_⟩ | T
  .refine List.ne_nil_of_mem (frs_mem.mpr ⟨1,DD,SS,frA_iff.mpr λq s=>?_,rfl⟩)
   show q∈r 2↔q=0\/q=1
   simp  [Aa1,Ac2,or_false]at s
   rcases s with rfl | rfl | rfl
   .simp[Q.2]
   .simp[G.self 2]
   .simp[Q.1]
  .obtain⟨i,i0,i1,hf⟩:=T.free G H AO
   refine List.ne_nil_of_mem (frs_mem.mpr ⟨i,i0,i1,frA_iff.mpr λq s=>?_,rfl⟩)
   constructor
   .intro U;obtain⟨j,hj,e⟩:=List.mem_iff_getElem.mp s;have ej:q=gi rim j:=by
     have:=t4 hj
     rw[Aa2 hj,e]at this;exact Ab4 this
    rw[ej]at U ⊢;rcases hf j hj U with h | h
    .exact .inl (by rw[<- h];rfl)
    .exact .inr (by rw[h])
   .have t:=T.tie AO (k:=i) zq1
    unfold nxt prv at t;rw[Ab zq5,Ab zq4]at t;rintro (rfl | rfl)
    .exact t.2
    .exact t.1
 have M:=aW4 ne
 obtain⟨k,k0,k1,hf,hp⟩:=frs_mem.mp M.1;have J:ix r rim=k:=by unfold ix pl;rw[hp];exact dJ2 nd zq1
 have c:pl r rim=gi rim k:=hp
 have F:=frA_iff.mp hf
 obtain⟨s1,s2,s3⟩:=aG4 k0 k1;have ta:=(F _ (M9 LL)).mpr (.inl rfl)
 have tb:=(F _ (M9 OO)).mpr (.inr rfl)
 have row:∃I O u w,r (gi rim k)=u++w/\w++u=gi rim (k-1)::(I++gi rim (k+1)::O)/\(∀q∈I,¬R q)/\St r n (rim.take k++I++rim.drop (k+1)) (λq=>R q\/q=gi rim k):=by
  rcases h with⟨rfl,B⟩ | T
  .have:k=1:=by simp at k1;lia
   subst this;obtain⟨mid,u,w,X,m,T⟩:=Tk.first G;refine⟨mid,[],u,w,X,m,λq _=>B q,.inr ?_⟩
   have:(λq=>R q\/q=gi [0,2,1] 1)=λq=>q=2:=by
    funext q;exact propext ⟨λz=>z.elim (λz=>absurd z (B q)) id,.inr⟩
   rw[this];exact T
  .obtain⟨I,O,u,w,X,m,D,e4,e5⟩:=T.row AO (k:=k) zq1
   unfold prv nxt at m;rw[Ab zq4,Ab zq5]at m;refine⟨I,O,u,w,X,m,D,.inr ?_⟩;rw[s2,s3];have T':=T;rw[s1]at T'
   have:=T'.off G (λq s U=>(F q (by rw[s1];exact s)).mp U) X m D e4 e5
   simpa using this
 obtain⟨I,O,u,w,X,m,D,e4⟩:=row;have P:com r rim=I:=by unfold com;rw[J,c];exact cA5 (G.nd _) X m
 have Y:=V1 (G.nd _) X m
 have Rp:¬R (gi rim k):=by
  rcases h with⟨_,B⟩ | T
  .exact B _
  .exact T.out _ (M9 zq1)
 refine⟨nd,lt,M.1,by rw[J];exact k0,by rw[J];exact k1,by rw[J,c],M.2,by rw[J,c];exact ta,by rw[J,c];exact tb,by rw[c];exact Rp,?_,λq s=>?_,?_,⟨O,u,w,by rw[c];exact X,by rw[J,P];exact m⟩⟩
 .rw[P];simp only[Aa5,Aa4]at Y;exact Y.2.1
 .rw[P]at s;have U:=(P9 X m q).mp (by simp[s])
  refine⟨G.lt _ q U,λhr=>?_,D q s,λe=>?_⟩
  .simp only[Aa5,Aa4,Aa0,Aa1,not_or]at Y;rcases (F q hr).mp U with h | h
   .exact Y.1.1 (h▸s)
   .exact Y.2.2.2 q s q (.inl h) rfl
  .rw[c]at e;exact G.self _ (by rw[e]at U;exact U)
 .have:aE5 r rim=rim.take k++I++rim.drop (k+1):=by unfold aE5;rw[J,P]
  rw[this,c];exact e4
noncomputable def mu (n:Nat)(R:Nat->Prop):Nat:=((List.range n).filter λq=>decide (¬R q)).length
noncomputable def un (n:Nat)(rim:AD)(R:Nat->Prop):Nat:=((List.range n).filter λq=>decide (q∉rim/\¬R q)).length
theorem cK4 (n:Nat)(R:Nat->Prop):mu n R<=n:=by
 exact Aq (List.length_filter_le _ _) SS
theorem eC6 (n:Nat)(rim:AD)(R:Nat->Prop):un n rim R<=n:=by
 exact Aq (List.length_filter_le _ _) SS
theorem Nx.mu (N:Nx r n rim R):TT.mu n (λq=>R q\/q=pl r rim)+1<=TT.mu n R:=by
 have hp:pl r rim∈rim:=by rw[<- N.ip];exact M9 (by have:=N.i1;exact zq1)
 unfold TT.mu
 have:(pl r rim::(List.range n).filter λq=>decide (¬(R q\/q=pl r rim))).length<=((List.range n).filter λq=>decide (¬R q)).length:=LV.bE2 (Aa5.mpr ⟨λh=>by simp[Ah]at h,List.Pairwise.filter _ Bz⟩) λq hq=>by
  rcases Aa1.mp hq with rfl | hq
  .exact Ah.mpr ⟨Ab5.mpr (N.lt _ hp),by simp[N.out]⟩
  .obtain⟨h1,e⟩:=Ah.mp hq;refine Ah.mpr ⟨h1,?_⟩;simp only[Ai,not_or]at e ⊢;exact e.1
 simpa using this
theorem Nx.un (N:Nx r n rim R):TT.un n (aE5 r rim) (λq=>R q\/q=pl r rim)+(com r rim).length<=TT.un n rim R:=by
 unfold TT.un;have sp:=aG4 N.i0 N.i1;have c:∀q,q∉aE5 r rim->q≠pl r rim->q∉rim:=λq hq X Y=>hq (by
  unfold aE5;rw[sp.1,N.ip]at Y;grind)
 have:(com r rim++(List.range n).filter λq=>decide (q∉aE5 r rim/\¬(R q\/q=pl r rim))).length<=((List.range n).filter λq=>decide (q∉rim/\¬R q)).length:=LV.bE2 (Aa4.mpr ⟨N.cnd,List.Pairwise.filter _ Bz,λa s b m e=>by
  subst e
  have:=(Ah.mp m).2
  simp only[Ai]at this;exact this.1 (by unfold aE5;simp[s])⟩) λq hq=>by
  rcases Aa0.mp hq with hq | hq
  .have:=N.cm q hq
   exact Ah.mpr ⟨Ab5.mpr this.1,by simp[this.2.1,this.2.2.1]⟩
  .obtain⟨h1,j⟩:=Ah.mp hq;refine Ah.mpr ⟨h1,?_⟩;simp only[Ai,not_or]at j ⊢;exact⟨c q j.1 j.2.2,j.2.1⟩
 rw[Ab7,Nat.add_comm]at this;refine Aq (Nat.le_of_eq ?_) this
 congr 1
 congr 1
 congr 1
 funext q
 exact Bc.mpr Iff.rfl
theorem St.nb (G:Good n r)(H:H1 r)(h:St r n rim R)(X:2<rim.length):∀q∈r (pl r rim),R q\/q=gi rim (ix r rim-1)\/q=gi rim (ix r rim+1)\/q∈com r rim:=by
 have N:=h.nx G H X
 have D:=N.i0
 have U:=N.i1
 intro q m;rcases h with⟨rfl,Q⟩ | T
 .have hi:ix r [0,2,1]=1:=by simp at U;lia
  have hp:pl r [0,2,1]=2:=by rw[<- N.ip,hi];rfl
  obtain⟨c,u,w,j,e,_⟩:=Tk.first G;have s:com r [0,2,1]=c:=by unfold com;rw[hi,hp];exact cA5 (G.nd _) j e
  rw[hp]at m
  have:=(P9 j e q).mpr m
  rw[s,hi];simp  [Aa1,Aa0,Ac2,or_false]at this;show R q\/q=0\/q=1\/q∈c;grind
 .obtain⟨I,O,u,w,j,e,J,Y,M⟩:=T.row AO (k:=ix r rim) zq1
  unfold prv nxt at e;rw[Ab zq4,Ab zq5]at e;rw[N.ip]at j;have s:com r rim=I:=by exact cA5 (G.nd _) j e
  have:=(P9 j e q).mpr m
  simp  [Aa1,Aa0]at this
  rw[s];rcases this with z | z | z | z
  .exact .inr (.inl z)
  .exact .inr (.inr (.inr z))
  .exact .inr (.inr (.inl z))
  .exact .inl (Y q z)
theorem bV0 (s:l.Nodup)(e:l=u++w)(j:w++u=a::(I++b::O))(h:adj l a b):I=[]:=by
 cases I with
 | nil=>rfl
 | cons x I=>
  have h1:=(V5 e j a b).mpr h
  have nd':=V1 s e j
  have c:adj (a::(x::I++b::O)) a x:=adj_iff.mpr (.inl ⟨[],I++b::O,SS⟩)
  have:=Q7 nd' h1 c
  subst this;simp at nd'
theorem bU9 (m:l.Nodup)(h1:adj l a b)(Y:adj l b a):∀q∈l,q=a\/q=b:=by
 intro q j;by_cases c:3<=l.length
 .exact(aG8 m c h1 Y).elim
 .have s:=B2 h1
  match l,m,c,s,j,h1 with
  | [],_,_,h,_,_=>simp at h
  | [x],_,_,h,j,_=>simp at h j;grind
  | [x,y],m,_,h,j,h1=>
   by_cases e:a=b
   .subst e;simp  [adj,List.take,Ab6,List.nil_append,lin]at h1;grind
   .simp at h j;grind
  | x::y::z::l,_,c,_,_,_=>simp at c
theorem St.all (G:Good n r)(H:H1 r)(h:St r n rim R)(h3:2<rim.length)(h2:(aE5 r rim).length<=2):∀q,q<n->q=0\/q=1\/R q\/q=pl r rim:=by
 have N:=h.nx G H h3
 have nb:=h.nb G H h3
 have i0:=N.i0
 have i1:=N.i1
 have X:rim.length=3/\com r rim=[]:=by
  unfold aE5 at h2;rw[Ab7,Ab7,Ad1,Bm]at h2;exact⟨LL,List.eq_nil_of_length_eq_zero LL⟩
 have hi:ix r rim=1:=by lia
 have Y:rim=[0,pl r rim,1]:=by
  have e:∃x,rim=[0,x,1]:=by
   rcases h with⟨rfl,_⟩ | T
   .exact⟨2,rfl⟩
   .obtain⟨mid,e⟩:=T.ends
    match mid,e with
    | [],e=>rw[e]at X;simp at X
    | [x],e=>exact⟨x,e⟩
    | x::y::m,e=>rw[e]at X;simp at X
  obtain⟨x,e⟩:=e
  have:pl r rim=x:=by rw[<- N.ip,hi,e];rfl
  rw[this];exact e
 generalize hp:pl r rim=p at *;rw[hi]at nb;have g0:gi rim 0=0:=by rw[Y];rfl
 have g2:gi rim 2=1:=by rw[Y];rfl
 have nb':=λq c=>by
  have:=nb q c
  rw[X.2]at this;simp  [Ac2,or_false]at this;have Q:=g0;have j:=g2;rw[Q,j]at this;exact this
 have U:adj (r p) 0 1:=by
  obtain⟨O,u,w,s,j⟩:=N.row;rw[X.2,hi]at j;have Q:=g0;have D:=g2;rw[Q,D]at j;rw[hp]at s;exact(V5 s j 0 1).mp (adj_iff.mpr (.inl ⟨[],O,SS⟩))
 have M:=G.tri _ _ _ U
 have a1:=G.tri _ _ _ M
 have n0:∀q∈r 0,R q\/q=1\/q=p:=by
  rcases h with⟨e,P⟩ | T
  .have B:p=2:=by rw[Y]at e;simpa using e
   subst B;have b0:=G.tri _ _ _ (G.tri _ _ _ G.out);exact λq c=>.inr (bU9 (G.nd 0) M b0 q c)
  .obtain⟨I,O,u,w,s,j,e3,F,e5⟩:=T.at_ AO 1 0 p (by rw[Y];exact adj_iff.mpr (.inr ⟨[0,p],rfl,rfl⟩)) (by rw[Y];exact adj_iff.mpr (.inl ⟨[],[1],rfl⟩))
   have hI:=bV0 (G.nd 0) s j M
   intro q c
   have:=(P9 s j q).mpr c
   rw[hI]at this;simp  [Aa1,List.nil_append]at this;rcases this with z | z | z
   .exact .inr (.inl z)
   .exact .inr (.inr z)
   .exact .inl (F q z)
 have n1:∀q∈r 1,R q\/q=p\/q=0:=by
  rcases h with⟨e,P⟩ | T
  .have B:p=2:=by rw[Y]at e;simpa using e
   subst B;have b1:=G.tri _ _ _ G.out;exact λq c=>.inr (bU9 (G.nd 1) a1 b1 q c)
  .obtain⟨I,O,u,w,s,j,e3,F,e5⟩:=T.at_ AO p 1 0 (by rw[Y];exact adj_iff.mpr (.inl ⟨[0],[],rfl⟩)) (by rw[Y];exact adj_iff.mpr (.inr ⟨[0,p],rfl,rfl⟩))
   have hI:=bV0 (G.nd 1) s j a1
   intro q c
   have:=(P9 s j q).mpr c
   rw[hI]at this;simp  [Aa1,List.nil_append]at this;rcases this with z | z | z
   .exact .inr (.inl z)
   .exact .inr (.inr z)
   .exact .inl (F q z)
 refine G.conn (λq=>q=0\/q=1\/R q\/q=p) (.inl rfl) λa b ha J=>?_
 rcases ha with rfl | rfl | ha | rfl
 .rcases n0 b J with z | z | z
  .exact .inr (.inr (.inl z))
  .exact .inr (.inl z)
  .exact .inr (.inr (.inr z))
 .rcases n1 b J with z | z | z
  .exact .inr (.inr (.inl z))
  .exact .inr (.inr (.inr z))
  .exact .inl z
 .by_cases hR:R b
  .exact .inr (.inr (.inl hR))
  .rcases h with⟨_,P⟩ | T
   .exact(P a ha).elim
   .by_cases hm:b∈rim
    .grind
    .exact(T.inn b (G.lt _ _ J) hR hm a (G.sym J) ha).elim
 .rcases nb' b J with z | z | z
  .exact .inr (.inr (.inl z))
  .exact .inl z
  .exact .inr (.inl z)
end
def bf (o:AD)(q v:Nat):Bool:=decide (q=2)||(decide (q∈o)&&decide (o.idxOf q<o.idxOf v))
structure Ar (r:Nat->AD)(n:Nat)(rim:AD)(R:Nat->Prop)(o:AD)(ps:List (Nat×Nat)):Prop where
 st:St r n rim R
 two:rim=[0,2,1]\/R 2
 rn:∀q,R q->q<n/\q≠0/\q≠1
 al:rim.length<=2->∀q,q<n->q=0\/q=1\/R q
 A:∀x∈ps,x.2∈r x.1/\3<=x.1/\(R x.1\/R x.2)
 B:ps.Pairwise λx y=>x≠y/\x≠(y.2,y.1)
 C:∀u v,v∈r u->(R u\/R v)->(3<=u\/3<=v)->(u,v)∈ps\/(v,u)∈ps
 D:∀v,3<=v->v<n->(ps.filter λx=>decide (x.1=v)).length=if R v then 3 else if v∈rim then 1 else 0
 on:o.Nodup
 om:∀q,q∈o↔R q/\3<=q
 L:∀v∈o,(ps.filter λx=>decide (x.1=v)&&bf o x.2 v).length=1
structure Fi (r:Nat->AD)(n:Nat)(o:AD)(ps:List (Nat×Nat)):Prop where
 on:o.Nodup
 om:∀q,q∈o↔3<=q/\q<n
 A:∀x∈ps,x.2∈r x.1/\3<=x.1
 B:ps.Pairwise λx y=>x≠y/\x≠(y.2,y.1)
 C:∀u v,v∈r u->(3<=u\/3<=v)->(u,v)∈ps\/(v,u)∈ps
 D:∀v,3<=v->v<n->(ps.filter λx=>decide (x.1=v)).length=3
 L:∀v∈o,(ps.filter λx=>decide (x.1=v)&&bf o x.2 v).length=1
section
variable {r:Nat->AD}{n:Nat}{rim:AD}{R:Nat->Prop}{o:AD}{ps:List (Nat×Nat)}
theorem Ar.begin (G:Good n r):Ar r n [0,2,1] (λ_=>False) [] []:=by
 refine⟨.inl ⟨rfl,λ_ z=>z⟩,.inl rfl,λ_ z=>z.elim,λh=>(by simp at h),λ_ z=>(by cases z),.nil,λ_ _ _ z=>(by simp at z),λv e _=>?_,.nil,λq=>SS,λ_ z=>(by cases z)⟩
 have:v∉[0,2,1]:=λz=>by simp at z;lia
 simp[this]
theorem St.ends (h:St r n rim R):∃mid,rim=0::(mid++[1]):=by
 rcases h with⟨rfl,_⟩ | T
 .exact⟨[2],rfl⟩
 .exact T.ends
theorem St.nR (h:St r n rim R):∀q∈rim,¬R q:=by
 rcases h with⟨rfl,e⟩ | T
 .exact λq _=>e q
 .exact T.out
theorem dC7 {c:AD}(e:c.Nodup)(p v:Nat):((c.map λq=>(q,p)).filter λx=>decide (x.1=v)).length=if v∈c then 1 else 0:=by
 induction c with
 | nil=>rfl
 | cons x c j=>
  have e:=Aa5.mp e
  rw[Ac7,List.filter_cons];by_cases h:x=v
  .subst h
   have:=j e.2
   rw[Ab e.1]at this;simp only[decide_true,if_true,Au,this]
   simp
  .have:=j e.2
   simp  [h,decide_false,Dz,if_false]
   rw[this]
   have:¬v=x:=λz=>h z.symm
   simp[this]
theorem cP7 {a p b q:Nat}(j:(X++a::p::b::Y).Nodup):q∈X++[a]++c++b::Y↔(q∈X++a::p::b::Y/\q≠p)\/q∈c:=by
 simp only[Aa4,Aa5,Aa1,not_or]at j;obtain⟨D,⟨⟨h1,J,M⟩,⟨s,m⟩,Q,F⟩,U⟩:=j;simp only[Aa0,Aa1,Ac2,or_false];constructor
 .rintro (((z | rfl) | z) | z | z)
  .exact .inl ⟨.inl z,λe=>U q z p (.inr (.inl rfl)) e⟩
  .exact .inl ⟨.inr (.inl rfl),h1⟩
  .exact .inr z
  .subst z;exact .inl ⟨.inr (.inr (.inr (.inl rfl))),λe=>s e.symm⟩
  .exact .inl ⟨.inr (.inr (.inr (.inr z))),λe=>m (e▸z)⟩
 .rintro (⟨z | z | z | z | z,hne⟩ | z)
  .exact .inl (.inl (.inl z))
  .exact .inl (.inl (.inr z))
  .exact absurd z hne
  .exact .inr (.inl z)
  .exact .inr (.inr z)
  .exact .inl (.inr z)
structure Sp (r:Nat->AD)(n:Nat)(rim:AD)(R:Nat->Prop)(p a b:Nat)(c:AD):Prop where
 hp:pl r rim=p
 pr:p∈rim
 ar:a∈rim
 br:b∈rim
 pa:p≠a
 pb:p≠b
 ab:a≠b
 p0:p≠0
 p1:p≠1
 ta:a∈r p
 tb:b∈r p
 tc:∀q∈c,q∈r p
 cnd:c.Nodup
 cm:∀q∈c,q<n/\q∉rim/\¬R q/\q≠p
 nb:∀q∈r p,R q\/q=a\/q=b\/q∈c
 m2:∀q,q∈aE5 r rim↔(q∈rim/\q≠p)\/q∈c
 o2:∀o,bK7 r rim o=if 2<p then o++[p] else o
 p2:∀ps,bK3 r rim ps=(ps++c.map λq=>(q,p))++(if 2<p then [(p,a),(p,b)] else [])
theorem St.sp (G:Good n r)(H:H1 r)(h:St r n rim R)(U:2<rim.length):∃p a b c,Sp r n rim R p a b c:=by
 have N:=h.nx G H U
 have i0:=N.i0
 have i1:=N.i1
 have s:=N.ip
 obtain⟨Y,X⟩:=h.ends;have Q:gi rim 0=0:=by rw[X];rfl
 have D:gi rim (rim.length-1)=1:=by
  rw[X];unfold gi
  have:(0::(Y++[1])).length-1=Y.length+1:=by simp
  simp
 have pm:pl r rim∈rim:=by rw[<- s];exact M9 zq1
 have inj:=λ{j k:Nat} (F:j<rim.length) (B:k<rim.length)=>aJ5 N.nd F B
 refine⟨_,_,_,_,rfl,pm,M9 LL,M9 OO,λz=>?_,λz=>?_,λz=>?_,λz=>?_,λz=>?_,N.ta,N.tb,λq P=>?_,N.cnd,N.cm,h.nb G H U,λq=>?_,λ_=>rfl,λ_=>rfl⟩
 .have:=inj zq1 LL (s.trans z);lia
 .have:=inj zq1 OO (s.trans z);lia
 .have:=inj LL OO z;lia
 .have:=inj zq1 bM3 (s.trans (z.trans Q.symm));lia
 .have:=inj zq1 XX (s.trans (z.trans D.symm));lia
 .obtain⟨O,u,w,J,M⟩:=N.row;exact(P9 J M q).mp (by simp[P])
 .have sp:=aG4 N.i0 N.i1
  have e:=sp.1
  rw[s]at e;have nd':(rim.take (ix r rim-1)++gi rim (ix r rim-1)::pl r rim::gi rim (ix r rim+1)::rim.drop (ix r rim+2)).Nodup:=by rw[<- e];exact N.nd
  have m:=cP7 (c:=com r rim) (q:=q) nd'
  rw[<- e]at m;unfold aE5;rw[sp.2.1,sp.2.2];exact m
theorem dV2 (c:v∈o)(hp:p∉o):bf (o++[p]) q v=bf o q v:=by
 unfold bf;have s:(o++[p]).idxOf v=o.idxOf v:=by rw[List.idxOf_append,Ac c]
 have m:=Ac4 c
 rw[s];by_cases e:q∈o
 .have j:(o++[p]).idxOf q=o.idxOf q:=by rw[List.idxOf_append,Ac e]
  rw[j];simp[e]
 .have j:o.length<=(o++[p]).idxOf q:=by rw[List.idxOf_append,Ab e];simp
  rw[Aj (p:=(o++[p]).idxOf q<o.idxOf v) LL]
  simp[e]
theorem Ar.step (G:Good n r)(H:H1 r)(h:Ar r n rim R o ps)(h3:2<rim.length):Ar r n (aE5 r rim) (λq=>R q\/q=pl r rim) (bK7 r rim o) (bK3 r rim ps):=by
 have N:=h.st.nx G H h3
 have all:=h.st.all G H h3
 have nR:=h.st.nR
 obtain⟨mid,em⟩:=h.st.ends;obtain⟨p,a,b,c,Z⟩:=h.st.sp G H h3;have P:=N.next;rw[Z.hp]at P all ⊢;have m2:=Z.m2;have z0:0∈rim:=by rw[em];simp
 have z1:1∈rim:=by rw[em];simp
 have c3:∀q∈c,3<=q:=λq j=>by
  have:=Z.cm q j
  have n0:q≠0:=λe=>this.2.1 (e▸z0)
  have n1:q≠1:=λe=>this.2.1 (e▸z1)
  have n2:q≠2:=λe=>by
   rcases h.two with z | z
   .exact this.2.1 (by rw[e,z];simp)
   .exact this.2.2.1 (e▸z)
  lia
 have p2:p=2\/3<=p:=by have:=Z.p0;have:=Z.p1;lia
 have Q:=nR p Z.pr
 have pn:=N.lt p Z.pr
 have first:p=2->(a=0\/a=1)/\(b=0\/b=1):=λe=>by
  rcases h.two with z | z
  .have ha:=Z.ar
   have X:=Z.br
   have h1:=Z.pa
   have h2:=Z.pb
   grind
  .exact absurd (e▸z) Q
 have R2:3<=p->R 2:=λe=>by
  rcases h.two with z | z
  .have:=Z.pr
   rw[z]at this;simp at this
   lia
  .exact z
 have po:=λz=>Q ((h.om p).mp z).1
 have An:=h.A
 rw[Z.o2,Z.p2];refine⟨P,?_,λq j=>?_,λhl q j=>?_,λx hx=>?_,?_,λu v s hR U=>?_,λv s hn=>?_,?_,λq=>?_,λv s=>?_⟩
 .rcases p2 with e | e
  .exact .inr (.inr e.symm)
  .exact .inr (.inl (R2 e))
 .rcases j with j | rfl
  .exact h.rn q j
  .exact⟨pn,Z.p0,Z.p1⟩
 .rcases all hl q j with z | z | z | z
  .exact .inl z
  .exact .inr (.inl z)
  .exact .inr (.inr (.inl z))
  .exact .inr (.inr (.inr z))
 .rcases Aa0.mp hx with hx | hx
  .rcases Aa0.mp hx with hx | hx
   .obtain⟨h1,h2,h4⟩:=An x hx;exact⟨h1,h2,h4.imp .inl .inl⟩
   .obtain⟨q,j,rfl⟩:=Aa8.mp hx;exact⟨G.sym (Z.tc q j),c3 q j,.inr (.inr rfl)⟩
  .split at hx
   .rename_i hp;simp  [Aa1,Ac2,or_false]at hx;rcases hx with rfl | rfl
    .exact⟨Z.ta,hp,.inl (.inr rfl)⟩
    .exact⟨Z.tb,hp,.inl (.inr rfl)⟩
   .cases hx
 .have old:∀x∈ps,∀u v,¬R u->¬R v->x≠(u,v)/\x≠(v,u):=λx hx u v hu s=>by
   have:=(An x hx).2.2
   refine⟨λe=>?_,λe=>?_⟩ <;> (rw[e]at this;exact this.elim AO AO)
  have cc:(c.map λq=>(q,p)).Pairwise λx y=>x≠y/\x≠(y.2,y.1):=by
   rw[Ae0];refine Z.cnd.imp_of_mem ?_;intro x y hx m hne;exact⟨λe=>hne (Prod.mk.inj e).1,λe=>(Z.cm x hx).2.2.2 (Prod.mk.inj e).1⟩
  have c1:(ps++c.map λq=>(q,p)).Pairwise λx y=>x≠y/\x≠(y.2,y.1):=by
   refine Ec.mpr ⟨h.B,cc,λx hx y m=>?_⟩
   obtain⟨q,j,rfl⟩:=Aa8.mp m;exact old x hx q p (Z.cm q j).2.2.1 Q
  split
  .refine Ec.mpr ⟨c1,?_,λx hx y m=>?_⟩
   .refine Ae1.mpr ⟨λy m=>?_,Ae1.mpr ⟨λ_ z=>by simp at z,.nil⟩⟩
    simp  [Aa1,Ac2,or_false]at m
    subst m;exact⟨λe=>Z.ab (Prod.mk.inj e).2,λe=>Z.pb (Prod.mk.inj e).1⟩
   .have Y:∀d,d∈rim->x≠(p,d)/\x≠(d,p):=λd hd=>by
     rcases Aa0.mp hx with hx | hx
     .exact old x hx p d Q (nR d hd)
     .obtain⟨q,j,rfl⟩:=Aa8.mp hx
      have:=Z.cm q j
      exact⟨λe=>this.2.2.2 (Prod.mk.inj e).1,λe=>this.2.1 ((Prod.mk.inj e).1▸hd)⟩
    simp  [Aa1,Ac2,or_false]at m
    rcases m with rfl | rfl
    .exact Y a Z.ar
    .exact Y b Z.br
  .rw[Bf];exact c1
 .by_cases ho:R u\/R v
  .rcases h.C u v s ho U with z | z
   .exact .inl (Ak _ (Ak _ z))
   .exact .inr (Ak _ (Ak _ z))
  .simp  [not_or]at ho
   have Y:∀d,d∈r p->¬R d->(3<=p\/3<=d)->(p,d)∈(ps++c.map λq=>(q,p))++(if 2<p then [(p,a),(p,b)] else [])\/(d,p)∈(ps++c.map λq=>(q,p))++(if 2<p then [(p,a),(p,b)] else []):=λd hd hdR h3''=>by
    rcases Z.nb d hd with z | z | z | z
    .exact absurd z hdR
    .have:2<p:=by
      rcases p2 with e | e
      .have:=(first e).1;lia
      .exact e
     rw[Ac this];exact .inl (Ac1 _ (by simp[z]))
    .have:2<p:=by
      rcases p2 with e | e
      .have:=(first e).2;lia
      .exact e
     rw[Ac this];exact .inl (Ac1 _ (by simp[z]))
    .exact .inr (Ak _ (Ac1 _ (Aa8.mpr ⟨d,z,rfl⟩)))
   have hup:u=p\/v=p:=by
    rcases hR with (z | z) | (z | z)
    .exact absurd z ho.1
    .exact .inl z
    .exact absurd z ho.2
    .exact .inr z
   rcases hup with e | e
   .subst e;exact Y v s ho.2 U
   .subst e;exact(Y u (G.sym s) ho.1 U.symm).symm
 .rw[Bn,Bn,Ab7,Ab7,dC7 Z.cnd,h.D v s hn];have e3:((if 2<p then [(p,a),(p,b)] else []).filter λx=>decide (x.1=v)).length=if v=p then 2 else 0:=by
   by_cases e:v=p
   .subst e;rw[Ac (show 2<v from s),Ac rfl];simp
   .have e':¬p=v:=λz=>e z.symm
    split <;> simp[e']
  rw[e3];by_cases e:v=p
  .subst e;have J:v∉c:=λz=>(Z.cm v z).2.2.2 rfl
   simp[Q,Z.pr,J]
  .by_cases J:v∈c
   .have h1:=Z.cm v J
    have h2:=(m2 v).mpr (.inr J)
    simp[h1.2.1,h1.2.2.1,h2,J,e]
   .have:v∈aE5 r rim↔v∈rim:=by rw[m2];simp[e,J]
    simp[e,J,this]
 .split
  .exact Aa4.mpr ⟨h.on,SS,λx hx y m e=>po (by simp at m;rw[<- m,<- e];exact hx)⟩
  .exact h.on
 .have:=h.om q
  split
  .rename_i hp;rw[Aa0,this];simp  [Aa1,Ac2,or_false];constructor
   .rintro (⟨z,z'⟩ | rfl)
    .exact⟨.inl z,z'⟩
    .exact⟨.inr rfl,hp⟩
   .rintro⟨z | z,z'⟩
    .exact .inl ⟨z,z'⟩
    .exact .inr z
  .rw[this];constructor
   .rintro⟨z,z'⟩;exact⟨.inl z,z'⟩
   .rintro⟨z | z,z'⟩
    .exact⟨z,z'⟩
    .lia
 .
  have hv0:v∈o\/(v=p/\2<p):=by
   split at s
   .rename_i hp;rcases Aa0.mp s with z | z
    .exact .inl z
    .exact .inr ⟨by simpa using z,hp⟩
   .exact .inl s
  rw[Bn,Bn,Ab7,Ab7];rcases hv0 with z | ⟨rfl,hp⟩
  .have vp:v≠p:=λe=>po (e▸z)
   have vR:=((h.om v).mp z).1
   have e1:∀x,bf (if 2<p then o++[p] else o) x v=bf o x v:=λx=>by
    split
    .exact dV2 z po
    .rfl
   have f2:((c.map λq=>(q,p)).filter λx=>decide (x.1=v)&&bf (if 2<p then o++[p] else o) x.2 v)=[]:=List.filter_eq_nil_iff.mpr λx hx X=>by
    obtain⟨q,j,rfl⟩:=Aa8.mp hx;simp  [As,Ai]at X;exact(Z.cm q j).2.2.1 (X.1▸vR)
   have f3:((if 2<p then [(p,a),(p,b)] else []).filter λx=>decide (x.1=v)&&bf (if 2<p then o++[p] else o) x.2 v)=[]:=List.filter_eq_nil_iff.mpr λx hx X=>by
    simp  [As,Ai]at X
    split at hx
    .simp  [Aa1,Ac2,or_false]at hx
     rcases hx with rfl | rfl
     .exact vp X.1.symm
     .exact vp X.1.symm
    .cases hx
   rw[f2,f3];simp  [e1];simpa using h.L v z
  .rw[Ac hp,Ac hp];have hbf:∀q,R q->bf (o++[v]) q v=true:=λq j=>by
    unfold bf;by_cases e:q=2
    .simp[e]
    .have:=h.rn q j
     have M:=(h.om q).mpr ⟨j,LL⟩
     have e1:(o++[v]).idxOf q=o.idxOf q:=by rw[List.idxOf_append,Ac M]
     have e2:o.length<=(o++[v]).idxOf v:=by rw[List.idxOf_append,Ab po];simp
     have:=Ac4 M
     rw[e1,Am (p:=o.idxOf q<(o++[v]).idxOf v) cV0]
     simp[M]
   have F:∀q,¬R q->bf (o++[v]) q v=false:=λq j=>by
    unfold bf;have n2:¬q=2:=λe=>j (e▸R2 hp)
    have no:=λz=>j ((h.om q).mp z).1
    have e2:(o++[v]).idxOf v=o.length:=by rw[List.idxOf_append,Ab po];simp
    have e1:o.length<=(o++[v]).idxOf q:=by rw[List.idxOf_append,Ab no];simp
    rw[e2,Aj (p:=(o++[v]).idxOf q<o.length) dZ5]
    simp[n2]
   have f1:(ps.filter λx=>decide (x.1=v)&&bf (o++[v]) x.2 v)=ps.filter λx=>decide (x.1=v):=List.filter_congr λx hx=>by
    by_cases e:x.1=v
    .have:=((An x hx).2.2).resolve_left (e▸Q)
     rw[hbf _ this,Bool.and_true]
    .simp[e]
   have f2:((c.map λq=>(q,v)).filter λx=>decide (x.1=v)&&bf (o++[v]) x.2 v)=[]:=List.filter_eq_nil_iff.mpr λx hx X=>by
    obtain⟨q,j,rfl⟩:=Aa8.mp hx;simp  [As,Ai]at X;exact(Z.cm q j).2.2.2 X.1
   have f3:([(v,a),(v,b)].filter λx=>decide (x.1=v)&&bf (o++[v]) x.2 v)=[]:=by
    simp[F a (nR a Z.ar),F b (nR b Z.br)]
   rw[f1,f2,f3,h.D v hp pn,Ab Q,Ac Z.pr];rfl
theorem Ar.run (G:Good n r)(H:H1 r):∀(f:Nat) {rim:AD} {R:Nat->Prop} {o:AD} {ps:List (Nat×Nat)},Ar r n rim R o ps->mu n R<=f->Fi r n (bD5 r f rim o ps).1 (bD5 r f rim o ps).2:=by
 have last:∀{rim:AD} {R:Nat->Prop} {o:AD} {ps:List (Nat×Nat)},Ar r n rim R o ps->¬ 2<rim.length->Fi r n o ps:=λ{rim R o ps} h M=>by
  have Y:=h.al YY
  have j:∀q,q<n->3<=q->R q:=λq U e=>by
   rcases Y q U with z | z | z
   .simp_all
   .simp_all
   .exact z
  refine⟨h.on,λq=>?_,λx m=>⟨(h.A x m).1,(h.A x m).2.1⟩,h.B,λu v c e=>h.C u v c ?_ e,λv e s=>by rw[h.D v e s,Ac (j v s e)],h.L⟩
  .rw[h.om];exact⟨λz=>⟨z.2,(h.rn q z.1).1⟩,λz=>⟨j q z.2 z.1,z.1⟩⟩
  .rcases e with z | z
   .exact .inl (j u (G.lt _ _ (G.sym c)) z)
   .exact .inr (j v (G.lt _ _ c) z)
 intro f;induction f with
 | zero=>
  intro rim R o ps h X;by_cases e:2<rim.length
  .have:=(h.st.nx G H e).mu;simp_all
  .exact last h e
 | succ f J=>
  intro rim R o ps h X;by_cases e:2<rim.length
  .have:=(h.st.nx G H e).mu
   rw[bD5,Ab XX]
   exact J (h.step G H e) LL
  .rw[bD5,Ac YY]
   exact last h e
theorem dW0 (G:Good n r)(H:H1 r):Fi r n (bD5 r n [0,2,1] [] []).1 (bD5 r n [0,2,1] [] []).2:=Ar.run G H n (Ar.begin G) (cK4 _ _)
end
end TT
set_option maxHeartbeats 1000000
namespace K37
open PySem L2 LV PyProof.Rows
section
variable {K:Frag}{ρ:List Sl}{m:Bool}{ta tb:TE}
theorem dB4 {x:Nat}(e:LV.E K false ta ρ (tN l))(j:LV.E K false tb ρ (.int (x:Int)))(c:x∈l) :
  LV.E K m (tBM K "tuple" (λx xs H Q=>∃(p:Addr) (l:AF) (k:Int),x=.ref p/\xs=[.int k]/\SqT K H p (l.map V.int)/\k∈l/\Q (.int (l.idxOf k)) H) ta (E8 tb R3)) ρ (.int (l.idxOf x:Nat)):=by
 rw[aU0]at e;have h:=aO8 (m:=m) e j (Aa8.mpr ⟨x,c,rfl⟩);rw[o7]at h;exact h
end
theorem bD9:B8 ["turn", "ahead", "behind", "ring"] ["turn", "ahead", "behind"] (B3 aR9):={}
theorem dJ0 (ds:AG)(a b:Nat)(j:a<=b)(e:b<=ds.length):aD6 ds (some (a:Int)) (some (b:Int))=(ds.drop a).take (b-a):=by
 unfold LV.aD6 HT.sIx;simp only[];rw[Ab SS,Ab SS,Ac8,Ac8,Nat.min_eq_left e,Nat.min_eq_left bS3]
def eD1 (ds:AG)(d:PyData):Prop:=∃(l:AD) (x y:Nat),x∈l/\y∈l/\x≠y/\l.length<=10000/\ds=[tN l,.int (x:Int),.int (y:Int)]/\d=tN (TT.cmo l x y)
theorem bU8 {l:AD}(e:x∈l):l.drop (l.idxOf x)++l.take (l.idxOf x)=x::(l.drop (l.idxOf x+1)++l.take (l.idxOf x)):=by
 have h:=Ac4 e
 rw[Bu h,List.getElem_idxOf h];rfl
theorem dW4 {l:AD}(c:x∈l)(j:y∈l)(e:x≠y):y∈l.drop (l.idxOf x+1)++l.take (l.idxOf x):=by
 have h1:y∈l.drop (l.idxOf x)++l.take (l.idxOf x):=by
  rw[<- Ad3 (l.idxOf x) l]at j
  have:=Aa0.mp j
  exact Aa0.mpr this.symm
 rw[bU8 c]at h1;rcases Aa1.mp h1 with h | h
 .exact absurd h.symm e
 .exact h
theorem aH2:B8 ["drawing", "rim", "k"] ["drawing", "rim", "k"] (B3 R8):={}
theorem aK7:B8 ["drawing", "rim"] ["drawing", "rim"] (B3 U9):={}
theorem dE5 {p q:Nat}(h:p<dr.length):td dr (p:Int) (q:Int)=decide (q∈TT.trn dr p):=by
 unfold td;rw[Ac8,Am SS,Am XX]
 refine Bc.mpr ⟨λz=>?_,λz=>Aa8.mpr ⟨q,z,rfl⟩⟩
 obtain⟨x,j,e⟩:=Aa8.mp z
 have:x=q:=by lia
 exact this▸j
theorem bG7 (h:k<rim.length):(nI rim)[k]? = some (.int (TT.gi rim k:Nat)):=by
 unfold nI;rw[Aa9,TT.t4 h];rfl
theorem dR4 (l l':AD):PyData.eqv (.list (nI l)) (.list (nI l'))=decide (l=l'):=by
 rw[PyData.eqv.eq_def];exact V3 (λa b=>by rw[aX4];exact Bc.mpr LL) l l'
theorem cZ2 (U:rim.Nodup)(Q:0<k)(h1:k+1<rim.length):decide (rim.filter (λq=>decide (q∈r (TT.gi rim k)))=[TT.gi rim (k-1),TT.gi rim (k+1)])=TT.frA r rim k:=by
 rw[By,Ai,TT.frA_iff];constructor
 .intro h q j
  have:q∈rim.filter (λq=>decide (q∈r (TT.gi rim k)))↔q∈[TT.gi rim (k-1),TT.gi rim (k+1)]:=by rw[h]
  rw[Ah]at this;simp  [j,true_and,Ai,Aa1,Ac2,or_false]at this;exact this
 .intro h;have e:rim.filter (λq=>decide (q∈r (TT.gi rim k)))=rim.filter (λq=>decide (q=TT.gi rim (k-1))||decide (q=TT.gi rim (k+1))):=List.filter_congr λq j=>by
   rw[<- Bool.decide_or];exact Bc.mpr (h q j)
  rw[e];have s:=(TT.aG4 Q h1).1;generalize TT.gi rim (k-1)=x at s ⊢;generalize TT.gi rim (k+1)=y at s ⊢;generalize TT.gi rim k=c at s;generalize rim.take (k-1)=X at s;generalize rim.drop (k+2)=Y at s;subst s;simp only[Aa4,Aa5,Aa1,not_or]at U;obtain⟨nX,⟨⟨h1,P,D⟩,⟨F,h5⟩,B,nY⟩,m⟩:=U;have M:X.filter (λq=>decide (q=x)||decide (q=y))=[]:=List.filter_eq_nil_iff.mpr λq j z=>by
   simp  [Dx,Ai]at z
   rcases z with z | z
   .exact m q j x (.inl rfl) z
   .exact m q j y (.inr (.inr (.inl rfl))) z
  have R:Y.filter (λq=>decide (q=x)||decide (q=y))=[]:=List.filter_eq_nil_iff.mpr λq j z=>by
   simp  [Dx,Ai]at z
   rcases z with z | z
   .exact D (z▸j)
   .exact B (z▸j)
  have J:¬c=x:=λz=>h1 z.symm
  simp[Bn,M,R,List.filter_cons,J,F]
def dN9 (ds:AG)(d:PyData):Prop:=∃(dr:AA) (rim:AD) (k:Nat),dr.length<=20/\rim.length<=20/\rim.Nodup/\(∀q∈rim,q<dr.length)/\0<k/\k+1<rim.length/\ds=[tD dr,tN rim,.int (k:Int)]/\d=.bool (TT.frA (TT.trn dr) rim k)
def eC3 (ds:AG)(d:PyData):Prop:=∃(dr:AA) (rim:AD),dr.length<=20/\rim.length<=20/\rim.Nodup/\(∀q∈rim,q<dr.length)/\2<rim.length/\TT.frs (TT.trn dr) rim≠[]/\ds=[tD dr,tN rim]/\d=.int (TT.pl (TT.trn dr) rim:Nat)
def fCb (r:Nat->AD)(p:Nat):PyData->Option PyData
 | .int q=>if q.toNat∈r p then some (.int q) else none
 | _=>none
theorem dE4 (r:Nat->AD)(p:Nat)(l:AD):(nI l).filterMap (fCb r p)=nI (l.filter λq=>decide (q∈r p)):=by
 induction l with
 | nil=>rfl
 | cons x l e=>
  show((PyData.int x)::nI l).filterMap _=_
  rw[Be,e,List.filter_cons];by_cases h:x∈r p
  .have:fCb r p (.int x)=some (.int x):=by show(if _ then _ else _)=_;rw[Ac8,Ac h]
   rw[this,Am h];rfl
  .have:fCb r p (.int x)=none:=by show(if _ then _ else _)=_;rw[Ac8,Ab h]
   rw[this,Aj h];rfl
def fNt (r:Nat->AD)(rim:AD):PyData->Option PyData
 | .int k=>if TT.frA r rim k.toNat then some (.int (TT.gi rim k.toNat:Nat)) else none
 | _=>none
theorem dI4 (r:Nat->AD)(rim:AD):(S6 1 (rim.length-2)).filterMap (fNt r rim)=nI (TT.frs r rim):=by
 unfold S6 TT.frs nI;rw[Ba,List.map_filterMap];refine L9 λk _=>?_
 show(if TT.frA r rim (1+(k:Int)).toNat then some (PyData.int (TT.gi rim (1+(k:Int)).toNat)) else none)=_
 rw[show(1+(k:Int)).toNat=k+1 by lia]
 by_cases h:TT.frA r rim (k+1)=true
 .rw[Ac h,Ac h];rfl
 .rw[Ab h,Ab h];rfl
theorem sc_taken_off:B8 ["drawing", "rim", "order", "arrows", "place", "k", "ahead", "behind", "coming"] ["drawing"] (B3 aB5):={}
def OUT (dr:AA):AD×List (Nat×Nat):=TT.bD5 (TT.trn dr) dr.length [0,2,1] [] []
structure Iv (r:Nat->AD)(n:Nat)(X:AD×List (Nat×Nat))(rim:AD)(R:Nat->Prop)(o:AD)(ps:List (Nat×Nat))(fu:Nat):Prop where
 st:TT.St r n rim R
 hf:TT.mu n R<=fu
 out:TT.bD5 r fu rim o ps=X
 b1:ps.length+TT.un n rim R+2*TT.mu n R<=30
 b2:o.length+TT.mu n R<=10
theorem Iv.begin (h:dr.length<=10):Iv (TT.trn dr) dr.length (OUT dr) [0,2,1] (λ_=>False) [] [] dr.length:=
 ⟨.inl ⟨rfl,λ_ z=>z⟩,TT.cK4 _ _,rfl,by have:=TT.cK4 dr.length (λ_=>False);have:=TT.eC6 dr.length [0,2,1] (λ_=>False);simp  [List.length_nil];lia,by have:=TT.cK4 dr.length (λ_=>False);simp  [List.length_nil];exact bS3⟩
theorem Iv.step {r:Nat->AD}{n:Nat}{X:AD×List (Nat×Nat)}{rim:AD}{R:Nat->Prop}{o:AD}{ps:List (Nat×Nat)}{fu:Nat}(G:TT.Good n r)(H1:TT.H1 r)(h:Iv r n X rim R o ps fu)(s:2<rim.length) :
  TT.Nx r n rim R/\Iv r n X (TT.aE5 r rim) (λq=>R q\/q=TT.pl r rim) (TT.bK7 r rim o) (TT.bK3 r rim ps) (fu-1)/\TT.mu n (λq=>R q\/q=TT.pl r rim)<TT.mu n R:=by
 have N:=h.st.nx G H1 s
 have J:=N.mu
 have M:=N.un
 have U:=h.hf
 have m:=h.b1
 have Y:=h.b2
 refine⟨N,⟨N.next,LL,?_,?_,?_⟩,AO⟩
 .have e:=h.out
  obtain⟨c,j⟩:∃c,fu=c+1:=⟨fu-1,LL⟩
  rw[j]at e ⊢;rw[TT.bD5,Ab XX]at e
  exact e
 .have:(TT.bK3 r rim ps).length<=ps.length+(TT.com r rim).length+2:=by
   unfold TT.bK3;split <;> simp <;> lia
  lia
 .have:(TT.bK7 r rim o).length<=o.length+1:=by
   unfold TT.bK7;split <;> simp
  lia
theorem Iv.last (h:Iv r n X rim R o ps fu)(e:¬ 2<rim.length):X=(o,ps):=by
 rw[<- h.out];cases fu with
 | zero=>rfl
 | succ f=>rw[TT.bD5,Ac YY]
theorem cB8 {l:AD}(j:l.Nodup)(h:∀q∈l,q<n):l.length<=n:=by
 have:=bE2 j λq e=>Ab5.mpr (h q e)
 simpa using this
def fCm (p:Nat):PyData->Option PyData
 | .int q=>some (pD (q,(p:Int)))
 | _=>none
theorem dI5 (p:Nat)(l:AD):(nI l).filterMap (fCm p)=((l.map λq=>(q,p)).map cI).map pD:=by
 unfold nI;rw[Ba,Ae3,Ae3,<- List.filterMap_eq_map];exact L9 λx _=>rfl
def dB1 (ds:AG)(u:OT):Prop:=∃(m:Nat) (dr tr:AA),Dw m dr tr/\ds=[tD dr]/\u=.tup [.lst ((nI (OUT dr).1).map OT.leaf),.leaf (.tuple ((sp ((OUT dr).2.map cI)).map pD))]
structure Pt (r:Nat->AD)(n:Nat)(rim:AD)(p i x y:Nat)(c:AD):Prop where
 nd:rim.Nodup
 lt:∀q∈rim,q<n
 rl:rim.length<=n
 fr:TT.frs r rim≠[]
 hp:TT.pl r rim=p
 hi:rim.idxOf p=i
 i0:0<i
 i1:i+1<rim.length
 pn:p<n
 pm:p∈rim
 hx:TT.gi rim (i-1)=x
 hy:TT.gi rim (i+1)=y
 mx:x∈r p
 my:y∈r p
 ne:x≠y
 hc:TT.cmo (r p) x y=c
 cl:c.length<=n
 ln:(r p).length<=n
 r2:TT.aE5 r rim=rim.take i++c++rim.drop (i+1)
 o2:∀o,TT.bK7 r rim o=if 2<p then o++[p] else o
 p2:∀ps,TT.bK3 r rim ps=(ps++c.map λq=>(q,p))++(if 2<p then [(p,x),(p,y)] else [])
theorem _root_.TT.Nx.pt (G:TT.Good n r)(N:TT.Nx r n rim R):∃p i x y c,Pt r n rim p i x y c:=by
 have s:=N.i0
 have m:=N.i1
 have e:TT.pl r rim∈rim:=by rw[<- N.ip];exact TT.M9 zq1
 exact⟨_,TT.ix r rim,_,_,_,N.nd,N.lt,cB8 N.nd N.lt,List.ne_nil_of_mem N.mem,rfl,rfl,s,m,N.lt _ e,e,rfl,rfl,N.ta,N.tb,λz=>by have:=TT.aJ5 N.nd LL OO z;simp_all,rfl,cB8 N.cnd λq j=>(N.cm q j).1,cB8 (G.nd _) (G.lt _),rfl,λ_=>rfl,λ_=>rfl⟩
section
variable {P:Program}{w:World}{K:Frag}{mg:Str->Option Value}{base:Heap}{a:Ad}
theorem cB5 (T:Tx K mg a):J6 P w K mg base CX0 2 a.bG1 a.bH0 ["turn", "ahead", "behind"] (spV K eD1):=by
 have e := @aI3 P w K mg base a T
 refine T.bJ4.F.ok bD9 (S7 (by rintro ds d ⟨_,_,_,_,_,_,_,rfl,_⟩;rfl)) (λU A X s H vs Q E D h=>?_)
 obtain⟨ds,S,d,J,r,⟨l,x,y,Y,B,c,M,rfl,rfl⟩,q⟩:=h;refine⟨_,(A6 (psS 3 bD9 (pcl e D T.t6 (A0 (pv 0) (A0 (pv 1) A4))))
   (A9 (C0 (U3 (cU2 K) (pv 3) (Q8 A8) (Q8 (G7 PySem.F.plainAttrs_tuple PySem.F.slot_tuple_index PySem.F.type_tuple_index (r9 K) (pv 3) (A0 (pv 2) A4))))))),G1 J r ?_ q⟩
 refine B1 (F3 (C6 (A3 (A5 rfl) (A3 (A5 rfl) A7)) ⟨l,x,Y,M,rfl,rfl⟩) ?_);rw[bU8 Y];have j:=dW4 Y B c;have R:=Ac4 j;have m:(x::(l.drop (l.idxOf x+1)++l.take (l.idxOf x))).idxOf y=(l.drop (l.idxOf x+1)++l.take (l.idxOf x)).idxOf y+1:=by
  rw[List.idxOf_cons,show(x==y)=false by simpa using c];rfl
 refine K0 (bX3 (A5 rfl) (X4 B0) (X4 (dB4 (A5 rfl) (A5 rfl) (Ad4 _ j))) (F5 _)) ?_;rw[m,show((1))=((1:Nat):Int) from rfl,dJ0 _ _ _ SS (by rw[C9,Au];exact zq2),aX2,bN4]
 rfl
theorem dT8 (T:Tx K mg a):J6 P w K mg base CX0 2 a.j0 a.a9 ["drawing", "rim", "k"] (spV K dN9):=by
 have j := @bP0 P w K mg base a T
 refine T.j2.F.ok aH2 (S7 (by rintro ds d ⟨_,_,_,_,_,_,_,_,_,rfl,_⟩;rfl)) (λB A U s H vs Q E D h=>?_)
 obtain⟨ds,S,d,hS,r,⟨c,rim,k,R,hl,nd,lt,h0,h1,rfl,rfl⟩,q⟩:=h;refine⟨_,(A9 (C0 (X7 (bP1 K D) (K2 (T:=["q"]) (is:=[0,1,2]) rfl (.of rfl) (O9 (pv 1)) (G3 DD) λ_ _ _ _=>⟨(E2 (i:=0) (by decide +kernel:(["q", "drawing", "rim", "k"]:AJ).Nodup) rfl (Or.inl rfl)),(U1 (P3 (pcl j D T.bO0 (A0 (pv 1) (A0 (B5 (ixK K) (pv 2) (pv 3)) (A0 (pv 0) A4)))))),(pv 0)⟩) (C4 (A0 (B5 (ixK K) (pv 1) (B7 Q2 (pv 2) A8)) (A0 (B5 (ixK K) (pv 1) (B7 H9 (pv 2) A8)) A4))) (E9 _)))),G1 hS r ?_ q⟩
 have hp:TT.gi rim k<c.length:=lt _ (TT.M9 zq1)
 have J:=F8 (K:=K) (m:=true) (ρ:=sl0 ["drawing", "rim", "k"].length [tD c,tN rim,.int k]) (n:=1) (is:=[0,1,2]) (g:=F4 0) (te:=F6 0) (fCb (TT.trn c) (TT.gi rim k)) (W3 v1) (by rw[C9];unfold sizeLine;exact aH7) (λd R=>by
  obtain⟨x,hx,rfl⟩:=Aa8.mp R;refine⟨_,B6,?_⟩;have Y:=t_b (C6 (K:=K) (ρ:=[vI x,vD c,.val (tN rim),vI k]) (pre:=bO4) (X:=E0) (A3 v1 (A3 (D8 v2 v3 rfl (M6 k rfl (bG7 zq1))) (A3 v0 A7))) ⟨c,_,_,rfl,rfl⟩);rw[dE5 hp]at Y;by_cases h:x∈TT.trn c (TT.gi rim k)
  .rw[Am h]at Y
   have:fCb (TT.trn c) (TT.gi rim k) (.int x)=some (.int x):=by show(if _ then _ else _)=_;rw[Ac8,Ac h]
   rw[this];exact⟨Y,A5 rfl⟩
  .rw[Aj h]at Y
   have:fCb (TT.trn c) (TT.gi rim k) (.int x)=none:=by show(if _ then _ else _)=_;rw[Ac8,Ab h]
   rw[this];exact Y)
 rw[dE4]at J;have M:∀l:AD,Fit (.list (nI l)):=λl=>by
  have e:nI l=(l.map λ(x:Nat)=>(x:Int)).map PyData.int:=by unfold nI;simp
  rw[e];exact(dS6 _).fit
 refine K0 (dA8 (EF.e' J) (EF.e' (E6 (ds:=nI [TT.gi rim (k-1),TT.gi rim (k+1)]) (A3 (D8 (A5 rfl) (L8 (A5 rfl) B0) rfl (M6 (k-1) LL (bG7 LL))) (A3 (D8 (A5 rfl) (L8 (A5 rfl) B0) rfl (M6 (k+1) RR (bG7 OO))) A7)) (show 2<=sizeLine by decide))) (M _) (M _)) ?_
 rw[dR4,cZ2 nd h0 h1]
theorem dH8 (T:Tx K mg a):J6 P w K mg base CX0 3 a.r6 a.p8 ["drawing", "rim"] (spV K eC3):=by
 have c := @dT8 P w K mg base a T
 refine T.p9.F.ok aK7 (S7 (by rintro ds d ⟨_,_,_,_,_,_,_,_,rfl,_⟩;rfl)) (λcdv A outer s H vs Q E hr h=>?_)
 obtain⟨ds,S,d,hS,r,⟨Y,rim,D,hl,nd,lt,h2,B,rfl,rfl⟩,q⟩:=h;refine⟨_,(A9 (C0 (B4 (bI2 K rfl) RR T.bA8 boot_min (A0 (K2 (T:=["k"]) (is:=[0,1]) rfl (.of rfl) (aS6 rfl T.J8 (A0 A8 (A0 (B7 Q2 (B4 (aK1 K) RR T.O4 Av (A0 (pv 1) A4)) A8) A4))) (G3 DD) λ_ _ _ _=>⟨(E2 (i:=0) (by decide +kernel:(["k", "drawing", "rim"]:AJ).Nodup) rfl (Or.inl rfl)),(U1 (P3 (pcl c hr T.j2 (A0 (pv 1) (A0 (pv 2) (A0 (pv 0) A4)))))),(B5 (ixK K) (pv 2) (pv 0))⟩) A4)))),G1 hS r ?_ q⟩
 have R:(((nI rim).length:Int)-1-1).toNat=rim.length-2:=by rw[C9];lia
 have J:=F8 (K:=K) (m:=true) (ρ:=sl0 ["drawing", "rim"].length [tD Y,tN rim]) (n:=1) (is:=[0,1]) (g:=F4 0) (fNt (TT.trn Y) rim) (bZ4 (A3 (B0 (i:=1)) (A3 (L8 (g:=λi j=>i-j) (P4 (A3 v1 A7)) (B0 (i:=1))) A7)) (by rw[C9];lia)) (by rw[R];unfold S6;simp;unfold sizeLine;omega) (λd D=>by
  rw[R]at D;obtain⟨j,hj,rfl⟩:=Aa8.mp D;have hj:=Ab5.mp hj;rw[show(1)+j=((j+1:Nat):Int) by lia]
  refine⟨_,B6,?_⟩;have U:=t_b (C6 (K:=K) (ρ:=[vI ((j+1:Nat)),vD Y,.val (tN rim)]) (pre:=dN9) (X:=E0) (A3 v1 (A3 v2 (A3 v0 A7))) ⟨Y,rim,j+1,AO,hl,nd,lt,SS,OO,rfl,rfl⟩)
  have hu:fNt (TT.trn Y) rim (.int ((j+1:Nat)))=if TT.frA (TT.trn Y) rim (j+1) then some (.int (TT.gi rim (j+1))) else none:=by show(if _ then _ else _)=_;rw[Ac8]
  rw[hu];by_cases h:TT.frA (TT.trn Y) rim (j+1)=true
  .rw[h]at U;rw[Ac h];exact⟨U,D8 v2 v0 rfl (M6 (j+1) rfl (bG7 OO))⟩
  .rw[Bool.not_eq_true]at h;rw[h]at U;rw[Ab (by rw[h];decide)]
   exact U)
 rw[R,dI4]at J;have e:nI (TT.frs (TT.trn Y) rim)=((TT.frs (TT.trn Y) rim).map λ(x:Nat)=>(x:Int)).map PyData.int:=by unfold nI;simp
 rw[e]at J;obtain⟨m1,m2⟩:=TT.aW4 B;exact K0 (dL2 (M:=((TT.pl (TT.trn Y) rim):Int)) (A3 (EF.e' J) A7) ⟨Aa8.mpr ⟨_,m1,rfl⟩,λb hb=>by
  obtain⟨x,hx,rfl⟩:=Aa8.mp hb
  have:=m2 x hx
  unfold TT.pl
  simp[*]⟩) rfl
theorem bQ8 (T:Tx K mg a):J6 P w K mg base CX0 4 a.aU2 a.aU4 ["drawing"] (spT K dB1):=by
 have X := @dH8 P w K mg base a T
 have U := @cB5 P w K mg base a T
 refine T.aD7.F.ok sc_taken_off (dX8 (by rintro ds d ⟨_,_,_,_,rfl,_⟩;rfl)) (λcdv A outer s H vs Q E hr h=>?_)
 obtain⟨ds,S,u,hS,r,⟨m,J,tr,dw,rfl,rfl⟩,q⟩:=h;obtain⟨M,m9⟩:=T.m9;obtain⟨ad,gF,sF⟩:=T.aB3;refine⟨_,(A6 (psS 1 sc_taken_off (aW3 (v:=.ref ad) rfl gF rfl))
   (A6 (psS 2 sc_taken_off (C4 A4))
   (A6 (psS 3 sc_taken_off (C4 A4))
   (A6 (Y7 Al (C3 aI9 (B4 (aK1 K) RR T.O4 Av (A0 (pv 1) A4)) A8 (E9 _)) (A6 (aC3 (i:=4) sc_taken_off.nd rfl (Or.inr rfl) (pcl X hr T.p9 (A0 (pv 0) (A0 (pv 1) A4))))
   (A6 (psS 5 sc_taken_off (G7 PySem.F.plainAttrs_tuple PySem.F.slot_tuple_index PySem.F.type_tuple_index (r9 K) (pv 1) (A0 (pv 4) A4)))
   (A6 (psS 6 sc_taken_off (B5 (ixK K) (pv 1) (B7 Q2 (pv 5) A8)))
   (A6 (psS 7 sc_taken_off (B5 (ixK K) (pv 1) (B7 H9 (pv 5) A8)))
   (A6 (psS 8 sc_taken_off (pcl U hr T.bJ4 (A0 (B5 (ixK K) (pv 0) (pv 4)) (A0 (pv 6) (A0 (pv 7) A4)))))
   (A6 (E4 (G7 Ab1 PySem.F.slot_list_extend PySem.F.type_list_extend aF4 (pv 3) (A0 (K2 (T:=["q"]) (is:=[4]) rfl (.of rfl) (O9 (pv 8)) (G3 DD) λ_ _ _ _=>⟨(E2 (i:=0) (by decide +kernel:(["q", "place"]:AJ).Nodup) rfl (Or.inl rfl)),K9,(D0 (A0 (pv 0) (A0 (pv 1) A4)))⟩) A4)))
   (A6 (N0 (C3 eA2 (pv 4) (aW3 (v:=.int 3) rfl m9 ⟨M,rfl⟩) (E9 _)) (A6 (E4 (G7 Ab1 Ag Af D3 (pv 2) (A0 (pv 4) A4)))
   (A9 (E4 (G7 Ab1 PySem.F.slot_list_extend PySem.F.type_list_extend aF4 (pv 3) (A0 (C4 (A0 (D0 (A0 (pv 4) (A0 (pv 6) A4))) (A0 (D0 (A0 (pv 4) (A0 (pv 7) A4))) A4))) A4))))) F0)
   (A9 (psS 1 sc_taken_off (B7 (aY2 K) (B7 (aY2 K) (U3 (cU2 K) (pv 1) aF5 (Q8 (pv 5))) (pv 8)) (U3 (cU2 K) (pv 1) (Q8 (B7 H9 (pv 5) A8)) aF5))))))))))))
   (A9 (C0 (D0 (A0 (pv 2) (A0 (J9 (cM9 K) RR T.N5 boot_tuple (A0 (B4 (L5 K) RR T.L4 boot_sorted (A0 (pv 3) A4)) A4)) A4))))))))),cX0 hS r ?_ q⟩
 have hdl:=dw.len
 have m7:=dw.m7
 obtain⟨F,G',f,B⟩:=dw.bt;have G:=B.good;have H1:=B.h1;rw[<- hdl]at G;refine aC7 (F3 (bR2 λH=>.tup (sF H) (.cons (.int _) (.cons (.int _) (.cons (.int _) .nil)))) ?_)
 refine aC7 (E1 (E6 A7) ?_ (show 2<9 by decide))
 refine aC7 (E1 (E6 A7) ?_ (show 3<9 by decide))
 refine aC7 (aF7 (λk ρ=>∃Y R o ps fu x4 x5 x6 x7 x8,Iv (TT.trn J) J.length (OUT J) Y R o ps fu/\k=TT.mu J.length R/\(x4.nb=true/\x5.nb=true/\x6.nb=true/\x7.nb=true/\x8.nb=true)/\ρ=[vD J,.val (tN Y),.own (nI o),.own ((ps.map cI).map pD),x4,x5,x6,x7,x8]) ⟨_,[0,2,1],(λ_=>False),[],[],J.length,.no,.no,.no,.no,.no,Iv.begin XX,rfl,⟨rfl,rfl,rfl,rfl,rfl⟩,rfl⟩ ?_)
 rintro k _ ⟨Y,R,o,ps,fu,x4,x5,x6,x7,x8,iv,rfl,⟨n4,n5,n6,n7,n8⟩,rfl⟩;refine⟨_,C2 (aB2 (P4 (A3 (A5 rfl) A7)) B0),?_⟩;rw[C9];by_cases h3:2<Y.length
 .rw[Ac (Am LL)]
  obtain⟨N,iv',hmu⟩:=iv.step G H1 h3;obtain⟨p,i,x,y,c,D⟩:=N.pt G;have b1:=iv.b1;have b2:=iv.b2;have i0:=D.i0;have i1:=D.i1;have rl:=D.rl;have cl:=D.cl;refine B1 (F3 (C6 (A3 (A5 rfl) (A3 (A5 rfl) A7)) ⟨J,Y,LL,LL,D.nd,D.lt,h3,D.fr,rfl,by rw[D.hp]⟩) ?_)
  refine B1 (F3 (d:=.int i) (by rw[<- D.hi];exact dB4 (A5 rfl) (A5 rfl) D.pm) ?_)
  refine B1 (F3 (D8 (A5 rfl) (L8 (A5 rfl) B0) rfl (M6 (i-1) LL (by rw[bG7 LL,D.hx]))) ?_)
  refine B1 (F3 (D8 (A5 rfl) (L8 (A5 rfl) B0) rfl (M6 (i+1) RR (by rw[bG7 OO,D.hy]))) ?_)
  refine B1 (F3 (C6 (A3 (D8 (A5 rfl) (A5 rfl) rfl (M6 p rfl (by rw[Aa9,bL4 D.pn];rfl))) (A3 (A5 rfl) (A3 (A5 rfl) A7))) ⟨_,x,y,D.mx,D.my,D.ne,by have:=D.ln;lia,rfl,by rw[D.hc]⟩) ?_)
  have cm:=F8 (K:=K) (m:=true) (ρ:=[vD J,.val (tN Y),.own (nI o),.own ((ps.map cI).map pD),vI p,vI i,vI x,vI y,.val (tN c)]) (n:=1) (is:=[4]) (g:=F4 0) (fCm p) (W3 v8) (by rw[C9];unfold sizeLine;lia) (λd hd=>by
   obtain⟨z,hz,rfl⟩:=Aa8.mp hd;exact⟨_,B6,Z9,G0 (A3 v0 (A3 v1 A7))⟩)
  rw[dI5]at cm;refine B1 (aG0 rfl cm (by simp  [Aa3];unfold sizeLine;lia) ?_)
  rw[<- Ad2,<- Ad2];show W K _ [vD J,.val (tN Y),.own (nI o),.own (((ps++c.map λq=>(q,p)).map cI).map pD),vI p,vI i,vI x,vI y,.val (tN c)] _
  refine B1 (cH9 [vD J,.val (tN Y),.own (nI (TT.bK7 (TT.trn J) Y o)),.own (((TT.bK3 (TT.trn J) Y ps).map cI).map pD),vI p,vI i,vI x,vI y,.val (tN c)] (C2 (aB2 (A5 rfl) B0)) (λh=>?_) (λh=>G6 ?_) ?_)
  .have h:=Ap h
   refine B1 (J4 rfl (A5 rfl) (by rw[C9];unfold sizeLine;lia) ?_)
   refine aG0 rfl (E6 (A3 (G0 (A3 (A5 rfl) (A3 (A5 rfl) A7))) (A3 (G0 (A3 (A5 rfl) (A3 (A5 rfl) A7))) A7)) (show 2<=sizeLine by decide)) (by simp only[Aa3,Ab7,Au,List.length_nil];unfold sizeLine;lia) ?_
   rw[D.o2,D.p2,Ac LL,Ac LL,m5,Ad2,Ad2]
   rfl
  .have h:=Bl h
   rw[D.o2,D.p2,Ab LL,Ab LL,Bf]
  have e1:aD6 (nI Y) none (some i)=nI (Y.take i):=by rw[aZ0 (by rw[C9];lia),bN4]
  have e2:aD6 (nI Y) (some (i+1)) none=nI (Y.drop (i+1)):=by
   rw[show(i+1)=((i+1:Nat):Int) by rfl,aT2 (by rw[C9];exact zq1),aX2]
  have ht:Y.take i≠[]:=λz=>by have:=congrArg List.length z;rw[Ad1,List.length_nil]at this;lia
  have nn:∀{l:AD},l≠[]->nI l≠[]:=λ{l} h z=>h (by cases l with | nil=>rfl | cons _ _=>cases z)
  generalize hρ:[Sl.val (.tuple (J.map tN)),.val (tN Y),.own (nI (TT.bK7 (TT.trn J) Y o)),.own (((TT.bK3 (TT.trn J) Y ps).map cI).map pD),vI p,vI i,vI x,vI y,.val (tN c)]=ρ;have s1:=bX3 (K:=K) (m:=false) (ρ := ρ) (A5 (i:=1) (by rw[<- hρ];rfl)) aR1 (X4 (A5 (i:=5) (by rw[<- hρ];rfl))) (F5 Y)
  have s2:=bX3 (K:=K) (m:=false) (ρ := ρ) (A5 (i:=1) (by rw[<- hρ];rfl)) (X4 (L8 (g:=λi j=>i+j) (A5 (i:=5) (by rw[<- hρ];rfl)) (B0 (i:=1)))) aR1 (F5 Y)
  rw[e1]at s1;rw[e2]at s2;have s3:=bZ1 (m:=false) s1 (A5 (i:=8) (by rw[<- hρ];rfl)) (F5 _) (F5 c) (nn ht) (by rw[C9,C9,Ad1];unfold sizeLine;lia)
  rw[<- m5]at s3;have s4:=bZ1 (m:=true) s3 s2 (F5 _) (F5 _) (nn (by simp[ht])) (by rw[C9,C9,Ab7,Ad1,Bm];unfold sizeLine;lia)
  rw[<- m5,<- D.r2]at s4;refine F3 s4 ⟨_,hmu,_,_,_,_,_,vI p,vI i,vI x,vI y,.val (tN c),iv',rfl,⟨rfl,rfl,rfl,rfl,rfl⟩,by rw[<- hρ];rfl⟩
 .rw[Ab (by rw[Ai];lia)]
  have e:=iv.last h3
  have b1:=iv.b1
  rw[e];exact cI1 rfl (V7 (A3 (EF.e' (m6 (A3 (G9 rfl) A7) (by rw[Aa3];lia))) A7) (T6 _)) rfl
end
set_option maxHeartbeats 1000000
section
variable {m:Nat}{dr tr:AA}
theorem Dw.fi (e:Dw m dr tr):TT.Fi (TT.trn dr) (m+3) (OUT dr).1 (OUT dr).2:=by
 have j:=e.len
 obtain⟨_,_,_,_,B⟩:=e;have G:=B.good
 have:=TT.dW0 G B.h1
 unfold OUT;rw[j];exact this
theorem off_mem:pA ((OUT dr).2.map cI) x y↔(x,y)∈(OUT dr).2:=by
 unfold pA;rw[Aa8];constructor
 .rintro⟨z,hz,e⟩;obtain⟨a,b⟩:=z;simp  [cI,Ck]at e;have j:a=x:=by lia
  have c:b=y:=by lia
  rw[<- j,<- c];exact hz
 .exact λh=>⟨_,h,rfl⟩
theorem cQ5 (X:Dw m dr tr):Ar m dr (sp ((OUT dr).2.map cI)):=by
 have F:=X.fi
 have hd:=X.len
 have m7:=X.m7
 have nd:=F.B.imp λh=>h.1
 have an:∀x y,(x,y)∈(OUT dr).2->(y,x)∉(OUT dr).2:=λx y h Q=>by
  have M:=(F.A _ h).1
  have ne:x≠y:=λe=>by rw[e]at M;exact X.good.self y M
  obtain⟨i,hi,R⟩:=List.getElem_of_mem h;obtain⟨j,hj,J⟩:=List.getElem_of_mem Q;have pw:=List.pairwise_iff_getElem.mp F.B;rcases Nat.lt_trichotomy i j with z | z | z
  .have:=(pw i j hi hj z).2
   rw[R,J]at this;exact this rfl
  .subst z;rw[R]at J;exact ne (congrArg Prod.fst J)
  .have:=(pw j i hj hi z).2
   rw[R,J]at this;exact this rfl
 have pn:∀x∈(OUT dr).2,x.1<m+3/\x.2<m+3:=λx c=>⟨X.lt (F.A x c).1,X.good.lt _ _ (F.A x c).1⟩
 have len:(OUT dr).2.length<=3*m:=by
  have h1:=TT.aT7 nd (m:=((List.range m).map λv=>(OUT dr).2.filter λx=>decide (x.1=v+3)).flatten) λx c=>by
   have a1:=(F.A x c).2
   have a2:=(pn x c).1
   exact List.mem_flatten.mpr ⟨_,Aa8.mpr ⟨x.1-3,Ab5.mpr LL,rfl⟩,Ah.mpr ⟨c,Am XX⟩⟩
  have P:=TT.bB2 (L:=List.range m) λv hv=>by
   have:=Ab5.mp hv
   exact Nat.le_of_eq (F.D (v+3) SS XX)
  rw[Cd]at P;exact bS3
 have ai:AI dr ((OUT dr).2.map cI):=by
  refine⟨Ae0.mpr (nd.imp λh e=>h (cX6 e)),by rw[Aa3];lia,λx c=>?_,λx c=>?_,λx c h=>?_,λb=>?_⟩
  .obtain⟨y,s,rfl⟩:=Aa8.mp c
   have:=F.A y s
   have:=pn y s
   simp  [cI];lia
  .obtain⟨y,s,rfl⟩:=Aa8.mp c;exact X.td (F.A y s).1
  .obtain⟨y,s,rfl⟩:=Aa8.mp c;exact an _ _ s (off_mem.mp h)
  .rw[List.filter_map,Aa3];by_cases hb:∃y∈(OUT dr).2,(y.1)=b
   .obtain⟨y,s,rfl⟩:=hb;refine Nat.le_of_eq (Eq.trans ?_ (F.D y.1 (F.A y s).2 (pn y s).1))
    congr 1
    refine List.filter_congr λx _=>?_
    show decide ((x.1)=(y.1:Int))=decide (x.1=y.1)
    exact Bc.mpr LL
   .have:(OUT dr).2.filter ((λx:Int×Int=>decide (x.1=b)) ∘ cI)=[]:=List.filter_eq_nil_iff.mpr λy s z=>hb ⟨y,s,Ap z⟩
    rw[this];exact Br _
 have pe:pA (sp ((OUT dr).2.map cI))=pA ((OUT dr).2.map cI):=by
  funext x y;exact propext (j7 _).mem_iff
 refine⟨ai.perm (j7 _),dA6 _,?_⟩;rw[pe];refine⟨λp q h=>(F.A _ (off_mem.mp h)).1,λp q h Q=>an _ _ (off_mem.mp h) (off_mem.mp Q),λp q M h=>((F.C p q M h).imp off_mem.mpr off_mem.mpr),λp q h=>(F.A _ (off_mem.mp h)).2,λp h3 hp=>?_⟩
 .have hD:=F.D p h3 hp
  have Y:((OUT dr).2.filter λx=>decide (x.1=p)).Nodup:=nd.sublist List.filter_sublist
  have U:∀x,x∈((OUT dr).2.filter λx=>decide (x.1=p))↔x∈(OUT dr).2/\x.1=p:=λx=>by rw[Ah,Ai]
  generalize ((OUT dr).2.filter λx=>decide (x.1=p))=L at hD Y U
  match L,hD with
  | [x,y,z],_=>
   have c:=(U x).mp SS
   have s:=(U y).mp SS
   have hz:=(U z).mp SS
   simp only[Aa5,Aa1,Ac2,or_false,not_or]at Y;have ne:∀{u v:Nat×Nat},u.1=p->v.1=p->u≠v->u.2≠v.2:=λh1 P h e=>h (Prod.ext (h1.trans P.symm) e)
   refine⟨x.2,y.2,z.2,ne c.2 s.2 Y.1.1,ne s.2 hz.2 Y.2.1,ne c.2 hz.2 Y.1.2,λq=>?_⟩
   rw[off_mem];constructor
   .intro h
    have:=(U (p,q)).mpr ⟨h,rfl⟩
    simp only[Aa1,Ac2,or_false]at this;rcases this with e | e | e
    .exact .inl (congrArg Prod.snd e)
    .exact .inr (.inl (congrArg Prod.snd e))
    .exact .inr (.inr (congrArg Prod.snd e))
   .have mk:∀{u:Nat×Nat},u∈(OUT dr).2/\u.1=p->q=u.2->(p,q)∈(OUT dr).2:=λ{u} h e=>by
     rw[e,<- h.2];exact h.1
    rintro (e | e | e)
    .exact mk c e
    .exact mk s e
    .exact mk hz e
end
end K37
namespace L2
open PySem PySem.Spec PyProof.Rows
section
variable {prog:Program}{w:World}{A:Around}{E:Ed}
theorem cA3 (R:s.TypeIs (.ref a) "tuple")(c:IsTup s.heap tp cs.toArray)(M:AnswersAll (λs=>s.TypeIs (.ref a) "tuple") (.ref a) cs vs)
  (X:∀tk',Q (.done (.ret (.bool (vs.any id)))) {s with toks:=tk'}):wpAny (model prog w) A (Builtin.«isinstance.nested» ⟨[.ref a,.ref tp,.int 0 tk],[]⟩) Q E s:=by
 obtain⟨o,B,m⟩:=R;obtain⟨h,g,d,t,os⟩:=s;obtain⟨P,D,e,n,j⟩:=c;have J:(⟨h,g,d,t,os⟩:Shared).TypeIs (.ref tp) "tuple" := ⟨_,D,e⟩;have f1:=F.isi_sub_tuple;have Y:(Value.type "tuple" == Value.ref tp)=false:=by rfl
 repeat (any_goals (first | assumption | (with_reducible rw[m]) | wp_step))
 rw[j];refine Ae ?_;refine Aa ?_;rw[<- Array.forIn_toList,List.toList_toArray];refine isinstance_items (λs tk z=>z) cs vs _ _ M ⟨o,B,m⟩ λtk'=>?_
 cases U:vs.any id with
 | true=>
  repeat (any_goals (first | assumption | wp_step))
  exact U▸X tk'
 | false=>
  repeat (any_goals (first | assumption | wp_step))
  exact U▸X tk'
end
section
def dL3 (K:Frag)(xs:List V)(H:Hp)(Q:VK):Prop:=∃a p ys,xs=[.ref a,.ref p]/\SqT K H a ys/\SqT K H p [.ty "list",.ty "tuple"]/\Q (.bl true) H
theorem cN4 (K:Frag)(B:X.K=K:=by rfl):Q4 X (.builtin "isinstance") (dL3 K):=by
 subst B;intro aA s σ H xs us Q I r h;obtain⟨a,p,ys,rfl,P,hp,q⟩:=h;obtain⟨J,_,pl,_⟩:=I.tuple P;obtain⟨its,rv,tp,_⟩:=I.tuple hp;cases r with
 | cons r1 r2=>
  cases r2 with
  | cons r3 r4=>
   cases r4;cases r1;cases r3
   have U:s.TypeIs (.ref a) "tuple" := by obtain⟨o,e,c,_⟩:=pl;exact⟨o,e,c⟩
   have hi:its=[.type "list",.type "tuple"]:=by
    cases rv with
    | cons h1 M=>cases M with | cons D F=>cases F;cases h1;cases D;rfl
   subst hi;have m:AnswersAll (λs=>s.TypeIs (.ref a) "tuple") (.ref a) [.type "list",.type "tuple"] [false,true]:=
    ⟨Answers.of_false_tuple DD (by kernel_rfl) (by kernel_rfl),Answers.of_true (by kernel_rfl) (by kernel_rfl),trivial⟩
   exact Bh (S:=λ_ R s=>(s.TypeIs (.ref a) "tuple" /\ IsTup s.heap p [Value.type "list",Value.type "tuple"].toArray)/\∀j,R (.ok (.ret (.bool true))) {s with toks:=j}) (λ_ _ _ _ _ Y=>isinstance_outer (cA3 Y.1.1 Y.1.2 m λj=>Y.2 j) (by intro q;cases q)) ⟨⟨U,tp⟩,λj=>⟨.bl true,H,I.tok _,rfl,q⟩⟩
end
end L2
namespace LV
open PySem L2 PyProof.Rows
section
variable {K:Frag}{ρ:List Sl}{m:Bool}{ta:TE}{ds:AG}
theorem dV1 (e:E K false ta ρ (.tuple ds)):E K m (tCB (dL3 K) (E8 ta (E8 (bQ4 (E8 (tC (.ty "list")) (E8 (tC (.ty "tuple")) R3))) R3))) ρ (.bool true):=E.bor (E.imm (m:=false) λS B σ H o I Q q=>e S B σ H o I _ λv H1 j r=>by
 cases r with
 | @tup a xs _ sq rr=>
  have sq:=sq
  refine⟨DD,λp hp=>?_⟩
  have g:=D9 (o:=.tup [.ty "list",.ty "tuple"]) hp
  exact⟨a,p,xs,rfl,F7 g sq,SqT.of C7,q _ _ (L2.Same.tr j g) (.bl _)⟩)
end
end LV
namespace LH
open PySem PySem.SetTable
end LH
namespace L2
open PySem PySem.Spec PyProof.Rows
end L2
namespace LH
open PySem PySem.SetTable
end LH
namespace L2
open PySem PySem.Spec PyProof.Rows
end L2
namespace LH
open PySem PySem.SetTable
end LH
namespace L2
open PySem PySem.Spec PyProof.Rows
end L2
namespace LH
open PySem
end LH
namespace L2
open PySem PySem.Spec PyProof.Rows
end L2
namespace LV
open PySem PySem.Spec PyProof.Rows L2
end LV
namespace L2
open PySem PySem.Spec PyProof.Rows
open PySem.Calls
end L2
namespace LV
open PySem L2 PyProof.Rows
end LV
namespace L2
open PySem PySem.Spec PyProof.Rows
end L2
namespace LV
open PySem L2 PyProof.Rows
end LV
namespace L2
open PySem PySem.Spec PySem.Calls PyProof.Rows
end L2
namespace LV
open PySem L2 PyProof.Rows
end LV
namespace L2
open PySem PySem.Spec PyProof.Rows
section
variable {prog:Program}{w:World}{A:Around}{E:Ed}{s:Shared}
theorem bP6 (P:IsTup s.heap l vs.toArray)(hI:IntsAre vs ns)(Y:vs.length<64)
  (h:∀(D:Addr) (h':Heap) (c:Nat) (out:AK) (ns':AF),s.heap.get? D=none->h'.get? D=some (seqObj "list" out c)->(∀b o,s.heap.get? b=some o->h'.get? b=some o)->IntsAre out.toList ns'->ns'.Perm ns->ns'.Pairwise (· <= ·)->Q (.ref D) {s with heap:=h'}) :
  wpAny (model prog w) A (call (.builtin "sorted") [.ref l]) Q E s:=by
 obtain⟨o,ho,F,n,B⟩:=P;refine Calls.call_function_entry kind_sorted plain_sorted entry_sorted (args_sorted1 _) ?_;refine Aa (Ae ?_);refine Aa (wpAny_collect_seq l (.inr rfl) ho F B (λg U=>?_) (by rw[Dt];simp;lia))
 refine Aa (wpAny_newList ?_ (by rw[Dt];simp;lia))
 have j:(g.push (seqObj "list" vs.toArray 0)).get? g.objs.size=some (seqObj "list" vs.toArray 0):=Ac3 _ rfl
 refine Aa (Cg (Cj slot_list_sort ⟨_,j,rfl⟩ entry_list_sort (list_sort_tree j hI Y λout ns' J M R=>⟨_,rfl,?_⟩) (args_list_sort _)))
 obtain⟨c,X⟩:=sortedHeap_at j;refine Ae ⟨_,rfl,h _ _ c out ns' ?_ X (λb o' e=>?_) J M R⟩
 .cases e:s.heap.get? g.objs.size with
  | none=>rfl
  | some o=>exact absurd (Ab3 (U _ _ e)) (Ad9 _)
 .have m:=Ab3 (U _ _ e)
  rw[sortedHeap_old (Ab9 m) (by rw[size_push'];exact Dh m)]
  exact Aa6 _ (U _ _ e)
end
section
def eA4 (K:Frag):List V->Hp->VK->Prop:=λxs H Q=>∃(p:Addr) (l:AF),xs=[.ref p]/\SqT K H p (l.map V.int)/\l.length<64 /\
  ∀a (l':AF),H a=none->l'.Perm l->l'.Pairwise (· <= ·)->Q (.ref a) (upd H a (.lst (l'.map V.int)))
theorem bT1 (K:Frag)(h:X.K=K:=by rfl):Q4 X (.builtin "sorted") (eA4 K):=by
 subst h;intro aA s σ H xs us Q I r ⟨p,l,e,hq,h64,q⟩;subst e;obtain⟨u,rfl,rx⟩:=U4 r;cases rx;obtain⟨its,M,pl,J⟩:=I.tuple hq;have j:=M.length;rw[Aa3]at j J;obtain⟨m,U,_⟩:=I.loc;refine bP6 pl (LV.N9 M) YY λD h' c out ns' hD he Y hi hp hs=>?_
 obtain⟨R,F⟩:=LV.z6 I U (by obtain⟨o,P,B,h1,h2⟩:=U;exact⟨o,P,B,Y _ _ h1,h2⟩) (λb o _ e=>Y b o e) hD he (LV.cL7 hi) (by rw[Aa3,hp.length_eq];exact J)
 exact⟨.ref _,_,F,rfl,q _ _ R hp hs⟩
end
end L2
namespace LV
open PySem L2 PyProof.Rows
open Att PySem.Spec PySem.W
section
def dU2 (K:Frag):List V->Hp->VK->Prop:=λxs H Q=>L2.eA4 K xs H Q\/∃(p:Addr) (ys:List V) (ts:AC),xs=[.ref p]/\SqT K H p ys/\TupsV K H ys ts/\2<=ys.length/\ys.length<64 /\
  ∀a (q:AD),H a=none->q.Perm (List.range ys.length)->(q.map λi=>ts.getD i []).Pairwise J7->Q (.ref a) (upd H a (.lst (q.map λi=>ys.getD i .non)))
theorem bV4 (K:Frag)(h:X.K=K:=by rfl):Q4 X (.builtin "sorted") (dU2 K):=by
 intro aA s σ H xs us Q I r z;rcases z with z | ⟨p,ys,ts,e,hq,ht,h2,h64,q⟩
 .exact L2.bT1 K h aA s σ H xs us Q I r z
 subst h;subst e;obtain⟨u,rfl,rx⟩:=U4 r;cases rx;obtain⟨its,M,pl,hz⟩:=I.tuple hq;have j:=M.length;obtain⟨m,F,_⟩:=I.loc;obtain⟨ta,tl⟩:=aW2 I ht M;obtain⟨o,ho,hc,n,hd⟩:=pl;refine aK8 (λQ' E' J=>wpAny_collect_seq p (.inr rfl) ho hc hd (λg hk=>by have:=J g s.toks hk;simpa using this) (by simp;simp_all)) F ta tl YY YY λh' tk D B c Y kp hD el hp hs=>?_
 have U:∀i∈B,i<ys.length:=λi hi=>by have:=Ab5.mp (hp.mem_iff.mp hi);simp[*]
 have R:=aF9 M U
 obtain⟨P,I'⟩:=z6 I F Y kp hD el R (by rw[Aa3,hp.length_eq,Cd];simp_all)
 exact⟨.ref D,_,I'.tok tk,rfl,q D B P (by rw[j];exact hp) hs⟩
end
section
variable {K:Frag}{ρ:List Sl}{m:Bool}{t ta tb:TE}{d d':PyData}{ds es:AG}
theorem cL9 {t:TA}{ts ss:AC}(D:A K false t ρ [.tuple (ts.map tI)])(Y:∀t∈ts,t≠[])(h2:ts=[]\/2<=ts.length)(R:ts.length<64)(hp:ss.Perm ts)(P:ss.Pairwise J7):EF K (tCB (dU2 K) t) ρ (ss.map tI):=
 cF5 D (e7 bB5 ss) λH vs Q r q=>by
  cases r with
  | cons a b=>
   cases b
   cases a with
   | @tup p xs _ s r=>
    have B:=r.length
    rw[Aa3]at B;rcases h2 with rfl | h2
    .have e:=hp.eq_nil
     subst e;cases r;exact .inl ⟨p,[],rfl,s,SS,λa l' h1 h2 U=>by have:=h2.eq_nil;subst this;exact q a _ h1 .nil⟩
    .refine .inr ⟨p,xs,ts,rfl,s,aZ4 r Y,XX,XX,λa X h1 h2 U=>q a _ h1 ?_⟩
     have e:(X.map λi=>ts.getD i [])=ss:=by
      have c:(X.map λi=>ts.getD i []).Perm ts:=by
       have J:(X.map λi=>ts.getD i []).Perm ((List.range xs.length).map λi=>ts.getD i []):=h2.map _
       have M:(List.range xs.length).map (λi=>ts.getD i [])=ts:=by
        refine List.ext_getElem? λj=>?_
        by_cases F:j<xs.length
        .rw[O5 F];simp[List.getD,Aa2 (show j<ts.length by simp_all)]
        .rw[Ad6 (by simp;exact zq9),Ad6 YY]
       rw[M]at J;exact J
      exact List.Perm.eq_of_pairwise (λa b _ _ h1 h2=>aD9 a b h1 h2) U P (c.trans hp.symm)
     have:=aG7 r λi hi=>Ab5.mp (h2.mem_iff.mp hi)
     rw[e]at this;exact this
end
end LV
set_option maxHeartbeats 1000000
namespace K37
open PySem L2 LV PyProof.Rows
theorem aA7:B8 ["_law_found", "_law_many", "_law_row"] ["_law_found", "_law_many"] (B3 i5):={}
theorem cL5:B8 ["drawing"] ["drawing"] (B3 aX8):={}
theorem cC7:B8 ["drawing"] ["drawing"] (B3 aT6):={}
theorem bE7:B8 ["_law_found"] ["_law_found"] (B3 u4):={}
theorem aB0:B8 ["_law_drawing", "_law_arrows_here", "_law_lift", "_law_ring"] ["_law_drawing", "_law_arrows_here", "_law_lift"] (B3 Y1):={}
theorem EFT.e' {K:Frag}(h:LV.EFT K t ρ u):LV.E K false t ρ u.data:=λS B σ H o I Q q=>h S B σ H o I _ λv L e s n c j=>q v e s (aZ2 O1 (λ_ _ z=>z) O1 u (λ_ _=>rfl) j)
def eA (m:Nat)(dr:AA)(s:Bool):List (Int×Int):=(rw1 m dr s 225 (sp ((OUT dr).2.map cI))).2
def cK8 (s:Bool)(ds:AG)(d:PyData):Prop:=∃(m:Nat) (dr tr:AA),Dw m dr tr/\ds=[tD dr]/\d=.tuple ((eA m dr s).map pD)
theorem dU5 (ps e:List (Int×Int)):PyData.eqv (.tuple (ps.map pD)) (.tuple (e.map pD))=decide (ps=e):=by
 rw[PyData.eqv];exact V3 bZ6 ps e
theorem cS1 (ps e:List (Int×Int)):PyData.eqv (.list (ps.map pD)) (.list (e.map pD))=decide (ps=e):=by
 rw[PyData.eqv];exact V3 bZ6 ps e
def eD4 (ds:AG)(d:PyData):Prop:=∃ps:List (Int×Int),ps.length<=1000/\ds=[.tuple (ps.map pD),.int 2]/\d=.bool true
section
variable {P:Program}{w:World}{K:Frag}{mg:Str->Option Value}{base:Heap}{a:Ad}
theorem dZ0 (e:Dw m dr tr)(s:Bool):LV.E K true (tOp (rIx K) (o6 (spT K cW2) [] E0 (E8 (F6 0) (E8 (tOp (rIx K) (o6 (spT K dB1) [] E0 (E8 (F6 0) R3)) (tC (.int 1))) (E8 (tC (.bl s)) R3)))) (tC (.int 1))) (sl0 1 [tD dr]) (.tuple ((eA m dr s).map pD)):=by
 have j:=EFT.e' (bR0 (K:=K) (ρ:=sl0 1 [tD dr]) (pre:=dB1) (X:=E0) (A3 v0 A7) ⟨m,dr,tr,e,rfl,rfl⟩)
 have c:=LV.E.imm (D8 j (B0 (i:=1)) rfl rfl) (T6 _)
 have Y:=EFT.e' (bR0 (pre:=cW2) (X:=E0) (A3 v0 (A3 c (A3 (bS0) A7))) ⟨m,dr,tr,_,s,e,cQ5 e,rfl,rfl⟩)
 exact LV.E.imm (D8 Y (B0) rfl rfl) (T6 _)
theorem dS8 (T:Tx K mg a):J6 P w K mg base CX0 9 a.bU1 a.bT8 ["drawing"] (spV K (cK8 true)):=by
 have j := @bQ8 P w K mg base a T
 have e := @dM7 P w K mg base a T
 refine T.bE3.F.ok cL5 (S7 (by rintro ds d ⟨_,_,_,_,rfl,_⟩;rfl)) (λX A c s H vs Q E Y h=>?_)
 obtain⟨ds,S,d,J,r,⟨m,M,tr,U,rfl,rfl⟩,q⟩:=h;exact⟨_,(A9 (C0 (B5 (ixK K) (pcl e Y T.X1 (A0 (pv 0) (A0 (B5 (ixK K) (pcl j Y T.aD7 (A0 (pv 0) A4)) A8) (A0 Y2 A4)))) A8))),G1 J r (K0 (dZ0 U true) rfl) q⟩
theorem dI8 (T:Tx K mg a):J6 P w K mg base CX0 9 a.bF9 a.bI3 ["drawing"] (spV K (cK8 false)):=by
 have j := @bQ8 P w K mg base a T
 have e := @dM7 P w K mg base a T
 refine T.aT9.F.ok cC7 (S7 (by rintro ds d ⟨_,_,_,_,rfl,_⟩;rfl)) (λX A c s H vs Q E Y h=>?_)
 obtain⟨ds,S,d,J,r,⟨m,M,tr,U,rfl,rfl⟩,q⟩:=h;exact⟨_,(A9 (C0 (B5 (ixK K) (pcl e Y T.X1 (A0 (pv 0) (A0 (B5 (ixK K) (pcl j Y T.aD7 (A0 (pv 0) A4)) A8) (A0 Y2 A4)))) A8))),G1 J r (K0 (dZ0 U false) rfl) q⟩
theorem dB6 (T:Tx K mg a):J6 P w K mg base CX0 1 a.aN7 a.aQ6 ["_law_found"] (spV K bW4):=by
 refine T.aO1.F.ok bE7 (S7 (by rintro ds d ⟨_,rfl,_⟩;rfl)) (λj A e s H vs Q E m h=>?_)
 obtain⟨ds,S,d,c,r,⟨i,rfl,rfl⟩,q⟩:=h;refine⟨_,(A9 (C0 (bY9 (B4 (dF4 K) RR T.N6 boot_isinstance (A0 (pv 0) (A0 (bJ0 rfl T.bR8 boot_int) A4))) (bZ0 (dQ0 (B4 (dF4 K) RR T.N6 boot_isinstance (A0 (pv 0) (A0 (bJ0 rfl T.cD2 boot_bool) A4)))))))),G1 c r ?_ q⟩
 exact K0 (cQ9 (cI7 (A5 rfl)) λh=>(eF1 (cI7 (A5 rfl)))) rfl
theorem dZ9 (T:Tx K mg a):J6 P w K mg base CX0 2 a.aC0 a.aE7 ["_law_found", "_law_many"] (spV K eD4):=by
 have e := @dB6 P w K mg base a T
 refine T.aE9.F.ok aA7 (S7 (by rintro ds d ⟨_,_,rfl,_⟩;rfl)) (λJ A c s H vs Q E B h=>?_)
 obtain⟨ds,S,d,R,r,⟨L,h1,rfl,rfl⟩,q⟩:=h;refine⟨_,(A6 (N0 (W8 (P3 (B4 (cN4 K) RR T.N6 boot_isinstance (A0 (pv 0) (A0 (D0 (A0 (bJ0 rfl T.aJ1 boot_list) (A0 (bJ0 rfl T.N5 boot_tuple) A4))) A4))))) (A9 (C0 Y2)) F0)
   (A6 (J5 Al rfl (O9 (pv 0)) (pgN 2 aA7) (A9 (N0 (PW.pt (bD7 (W8 (P3 (B4 (dF4 K) RR T.N6 boot_isinstance (A0 (pv 2) (A0 (bJ0 rfl T.N5 boot_tuple) A4))))) (bD7 (C3 eE6 (B4 (aK1 K) RR T.O4 Av (A0 (pv 2) A4)) (pv 1) (E9 _)) (aY8 (W8 (P3 (B4 (aG2 K rfl) RR T.bJ1 boot_all (A0 (K2 (T:=["_law_place"]) (is:=[]) rfl (.of rfl) (O9 (pv 2)) (G3 DD) λ_ _ _ _=>⟨(E2 (i:=0) (by decide +kernel:(["_law_place"]:AJ).Nodup) rfl (Or.inl rfl)),K9,(pcl e B T.aO1 (A0 (pv 0) A4))⟩) A4)))))))) (A9 (C0 Y2)) F0)))
   (A9 (C0 Y2)))),G1 R r ?_ q⟩
 refine B1 (X2 (aB1 (t_b (dV1 (A5 rfl)))) (λh=>by cases h) (λ_=>G6 ?_))
 refine B1 (N2 (W3 (A5 rfl)) (λi ρ=>∃X,ρ=[.val (.tuple (L.map pD)),vI 2,X]) ⟨.no,rfl⟩ ?_ ?_)
 .rintro i d _ j ⟨X,rfl⟩;rw[Aa9]at j;obtain⟨p,D,rfl⟩:=Ay.mp j;refine⟨_,B6,?_⟩;have U:=eD8 (K:=K) (m:=false) (ρ:=[.val (.tuple (L.map pD)),vI 2,.val (pD p)]) (P4 (A3 v2 A7)) v1;have M:=F8 (m:=true) (ρ:=[.val (.tuple (L.map pD)),vI 2,.val (pD p)]) (n:=1) (is:=[]) (g:=F4 0) (te:=o6 (spV K bW4) [] E0 (E8 (F6 0) R3)) (λ_=>some (.bool true)) (W3 (ds:=[PyData.int p.1,.int p.2]) v2) (show 2<sizeLine by decide) (λd j=>by
   obtain⟨Y,rfl⟩:∃Y,d=.int Y:=by
    simp  [Aa1,Ac2,or_false]at j
    rcases j with rfl | rfl <;> exact⟨_,rfl⟩
   exact⟨_,B6,Z9,C6 (A3 (A5 rfl) A7) ⟨Y,rfl,rfl⟩⟩)
  refine X2 (b := !true||((!decide ((2)=2)) || !(([true,true]).all id))) (bZ9 (aB1 (t_b (cI7 (d:=pD p) (A5 rfl)))) λ_=>bZ9 (C2 U) λ_=>aB1 (t_b (cJ5 (A3 (EF.e' M) A7)))) (λh=>by simp at h) (λh=>G6 ⟨_,rfl⟩)
 .rintro _ ⟨X,rfl⟩;exact K0 bS0 rfl
end
def eE7 (ds:AG)(d:PyData):Prop:=∃(m:Nat) (dr tr:AA) (ps:List (Int×Int)) (s:Bool),Dw m dr tr/\Ar m dr ps/\(∀a b c,TT.Rn (pA ps) a b c->¬TT.Si (TT.trn dr) s a b c)/\ds=[tD dr,.tuple (ps.map pD),.int (sg s)]/\d=.bool true
section
variable {P:Program}{w:World}{K:Frag}{mg:Str->Option Value}{base:Heap}{a:Ad}
theorem eA3 (T:Tx K mg a):J6 P w K mg base CX0 4 a.aD8 a.aB7 ["_law_drawing", "_law_arrows_here", "_law_lift"] (spV K eE7):=by
 have j := @dM3 P w K mg base a T
 have Y := @dK2 P w K mg base a T
 have c := @dN0 P w K mg base a T
 refine T.Z6.F.ok aB0 (S7 (by rintro ds d ⟨_,_,_,_,_,_,_,_,rfl,_⟩;rfl)) (λcdv A outer s' H vs Q E R h=>?_)
 obtain⟨ds,S,d,hS,r,⟨m,U,tr,ps,s,M,J,hn,rfl,rfl⟩,q⟩:=h;refine⟨_,(A6 (J5 Al rfl (O2 (pcl j R T.R9 (A0 (pv 1) A4))) (pgN 3 aB0) (A9 (N0 (C3 (aJ2 K R) (pv 2) (pcl Y R T.T5 (A0 (pv 0) (A0 (pv 1) (A0 (pcl c R T.R6 (A0 (pv 1) (A0 (pv 3) A4))) A4)))) rfl) (A9 (C0 Y2)) F0)))
   (A9 (C0 Y2))),G1 hS r ?_ q⟩
 have hl:=J.ai.len
 refine B1 (N2 (T7 (EF.e' (M4 (A3 (A5 rfl) A7) ⟨U,ps,J.ai,rfl,rfl⟩))) (λi ρ=>∃x3,ρ=[vD U,.val (.tuple (ps.map pD)),vI (sg s),x3]) ⟨.no,rfl⟩ ?_ ?_)
 .rintro i d _ hd ⟨x3,rfl⟩;rw[Aa9]at hd;obtain⟨v,hv,rfl⟩:=Ay.mp hd;obtain⟨x,y,z,rfl,g,_,_⟩:=J.ring ((C8 _).mem_iff.mp (Aw hv));have k:=cS7 M (J.tri g);obtain⟨Hh,po,D,_,_⟩:=J.lift' M g k;have hs:lf m U x y z≠s:=λe=>hn x y z g (by rw[<- e];exact k)
  have B:sg s∉(X9 m U).map (hI Hh):=λhm=>by
   obtain⟨t,ht,e⟩:=Aa8.mp hm;obtain⟨p,q',_,_,e2⟩:=aS3 M po ht;rw[e]at e2
   revert hs e2
   rcases D p q' with u | u <;> rw[u] <;> cases s <;> cases lf m U x y z <;> simp[sg]
  refine⟨_,B6,?_⟩;have e:=bC8 (K:=K) (m:=false) (ρ:=[vD U,.val (.tuple (ps.map pD)),vI (sg s),.val (tI [x,y,z])]) v2 (C6 (pre:=cE4) (X:=E0) (A3 v0 (A3 v1 (A3 (C6 (pre:=dL7) (X:=E0) (A3 v1 (A3 v3 A7)) ⟨ps,x,y,z,aK6,rfl,rfl⟩) A7))) ⟨m,U,tr,ps,_,Hh,M,po,rfl,rfl⟩) rfl (cG1 _) (X0 _).fit;rw[eB2,Aj B]at e;exact X2 (C2 e) (λh=>by cases h) (λ_=>G6 ⟨_,rfl⟩)
 .rintro _ ⟨x3,rfl⟩;exact K0 bS0 rfl
end
end K37
namespace L2
open PySem PySem.Spec PyProof.Rows
end L2
namespace LV
open PySem L2
end LV
namespace L2
open PySem PySem.Spec PyProof.Rows
end L2
namespace LV
open PySem L2
end LV
namespace L2
open PySem PySem.Spec PyProof.Rows
section
theorem dQ3 (K:Frag){id:String}{apos cpos:Pos}(pa:PlainAttrs T)(slot:Slot T name id)(Y:typeOf (.builtin id)=pure (.type "method_descriptor"))(J:MtR X id r)(ho:PE X o to)(U:PA X (e::es) t)
  (h:X.K=K:=by rfl) (c:attributeBase o name X.env (eval o X.env)=eval o X.env:=by rfl)
  (m:((backTo cpos (starEach (e::es) X.env)).all (λx => !x.1)&&(backToKw cpos (keywordEach [] X.env)).all (λx=>x.1.isSome)
   && decide ((e::es).length+([]:List Keyword).length+(if([]:List Keyword).isEmpty then 0 else 1)<30))=true:=by rfl)
  (s:(apos.endLine==cpos.line)=true:=by rfl) (M:starEach (e::es) X.env=(false,eval e X.env)::starEach es X.env:=by rfl) (j:(backTo cpos (starEach es X.env)).any (·.1)=false:=by rfl) :
  PE X (.Call (.Attribute o name apos) (e::es) [] cpos) (tBM K T r to t):=h▸G7 pa slot Y J ho U c m s M j
end
end L2
namespace LV
open PySem L2
end LV
set_option maxHeartbeats 1000000
namespace K37
open PySem L2 LV PyProof.Rows
theorem sc__law_are_arrows:B8 ["_law_drawing", "_law_found", "_law_ties", "_law_p", "_law_q", "_law_outs"] ["_law_drawing", "_law_found"] (B3 U2):={}
def mm (x:Int×Int):Int×Int:=(min x.1 x.2,max x.1 x.2)
def fMm:PyData->Option PyData
 | .tuple [.int a,.int b]=>some (pD (mm (a,b)))
 | _=>none
theorem cG0:∀ps:List (Int×Int),(ps.map pD).filterMap fMm=(ps.map mm).map pD
 | []=>rfl
 | x::ps=>by
  rw[Ac7,Be,Ac7,Ac7,cG0 ps];rfl
def fFs:PyData->Option PyData
 | .tuple [.int a,_]=>some (.int a)
 | _=>none
theorem cG8:∀ps:List (Int×Int),(ps.map pD).filterMap fFs=(ps.map Prod.fst).map PyData.int
 | []=>rfl
 | x::ps=>by
  rw[Ac7,Be,Ac7,Ac7,cG8 ps];rfl
theorem dO8 (h:mm x=mm y):x=y\/x=(y.2,y.1):=by
 have h1:=congrArg Prod.fst h
 have j:=congrArg Prod.snd h
 simp  [mm]at h1 j
 by_cases e:x.1=y.1
 .exact .inl (Prod.ext e LL)
 .exact .inr (Prod.ext LL LL)
theorem aP8 (i:Nat)(x:Int×Int):x∈gt1 dr i↔∃q:Nat,q∈TT.trn dr i/\i<q/\2<q/\x=((i:Int),(q:Int)):=by
 unfold gt1;rw[Aa8];constructor
 .rintro⟨q,hq,rfl⟩;obtain⟨h1,e⟩:=Ah.mp hq;simp  [As,Ai]at e;exact⟨q,h1,e.1,e.2,rfl⟩
 .rintro⟨q,h1,e,h3,rfl⟩;exact⟨q,Ah.mpr ⟨h1,by simp[e,h3]⟩,rfl⟩
section
variable {m:Nat}{dr tr:AA}{ps:List (Int×Int)}
theorem Ar.nat (h:Ar m dr ps)(e:u∈ps):∃p q:Nat,u=((p:Int),(q:Int))/\pA ps p q:=by
 have lo:=h.ai.lo u e
 obtain⟨j,c⟩:=u;simp  at lo;obtain⟨x,rfl⟩:∃x:Nat,j=x:=⟨j.toNat,LL⟩
 obtain⟨y,rfl⟩:∃y:Nat,c=y:=⟨c.toNat,LL⟩
 exact⟨x,y,rfl,e⟩
theorem Ar.mmp (U:Dw m dr tr)(h:Ar m dr ps):(ps.map mm).Perm (bS5 dr):=by
 have G:=U.good
 have P:=U.len
 refine(List.perm_ext_iff_of_nodup ?_ ?_).mpr λx=>?_
 .rw[List.Nodup,Ae0];refine Cr (λ{x y} Y X R e=>?_) h.ai.nd
  rcases dO8 e with z | z
  .exact R z
  .exact h.ai.anti y X (by rw[<- z];exact Y)
 .unfold bS5;refine bA6 (λi _=>?_) λi j D _ x Y X=>?_
  .unfold gt1;rw[List.Nodup,Ae0];refine(List.Pairwise.filter _ (G.nd i)).imp λ{a b} h e=>h ?_
   have:=congrArg Prod.snd e
   simp  at this
   lia
  .obtain⟨q,_,_,_,M⟩:=(aP8 i x).mp Y;obtain⟨q',_,_,_,J⟩:=(aP8 j x).mp X;rw[M]at J
   have:=congrArg Prod.fst J
   simp  at this
   lia
 unfold bS5;rw[ga_mem,Aa8];constructor
 .rintro⟨y,X,rfl⟩;obtain⟨p,q,rfl,hp⟩:=h.nat X;have s:=h.o3.tie _ _ hp;have B:=h.o3.co _ _ hp;have F:=h.o3.ne U.rs hp;have l1:=G.lt _ _ s;have l2:=U.lt s;by_cases c:p<q
  .exact⟨p,XX,(aP8 _ _).mpr ⟨q,s,c,aH5,Prod.ext (by show min (p:Int) q=p;lia) (by show max (p:Int) q=q;lia)⟩⟩
  .exact⟨q,XX,(aP8 _ _).mpr ⟨p,G.sym s,LL,AO,Prod.ext (by show min (p:Int) q=q;lia) (by show max (p:Int) q=p;lia)⟩⟩
 .rintro⟨i,hi,Y⟩;obtain⟨q,s,h1,Q,rfl⟩:=(aP8 _ _).mp Y;rcases h.o3.tot i q s (.inr Q) with g | g
  .exact⟨_,g,Prod.ext (by show min (i:Int) q=i;lia) (by show max (i:Int) q=q;lia)⟩
  .exact⟨_,g,Prod.ext (by show min (q:Int) i=i;lia) (by show max (q:Int) i=q;lia)⟩
theorem Ar.outs (h:Ar m dr ps)(Y:3<=p)(hp:p<m+3):(ps.map Prod.fst).count (p:Int)=3:=by
 obtain⟨a,b,c,X,U,J,j⟩:=h.o3.out p Y hp;have e:(ps.filter λx=>decide (x.1=(p:Int))).Perm [(p,a),(p,b),(p,c)]:=by
  refine(List.perm_ext_iff_of_nodup (h.ai.nd.sublist List.filter_sublist) ?_).mpr λu=>?_
  .simp  [Aa5,Aa1,Ac2,or_false,Ck,not_false_eq_true,List.nodup_nil,and_true]
   lia
  .rw[Ah,decide_eq_true_iff];simp  [Aa1,Ac2,or_false];constructor
   .rintro⟨h1,h2⟩;obtain⟨x,y,rfl,g⟩:=h.nat h1
    have:x=p:=by have:=h2;lia
    subst this;rcases (j y).mp g with rfl | rfl | rfl <;> simp
   .rintro (rfl | rfl | rfl)
    .exact⟨(j _).mpr (.inl rfl),rfl⟩
    .exact⟨(j _).mpr (.inr (.inl rfl)),rfl⟩
    .exact⟨(j _).mpr (.inr (.inr rfl)),rfl⟩
 have s:∀ps:List (Int×Int),(ps.map Prod.fst).count (p:Int)=(ps.filter λx=>decide (x.1=(p:Int))).length:=λps=>by
  rw[List.count,List.countP_map,List.countP_eq_length_filter];rfl
 rw[s,e.length_eq];rfl
end
def dZ8 (ds:AG)(d:PyData):Prop:=∃(m:Nat) (dr tr:AA) (ps:List (Int×Int)),Dw m dr tr/\Ar m dr ps/\ds=[tD dr,.tuple (ps.map pD)]/\d=.bool true
section
variable {P:Program}{w:World}{K:Frag}{mg:Str->Option Value}{base:Heap}{a:Ad}
theorem cN0 (c:LV.A K false t ρ [.tuple (ps.map pD)])(j:ps.length<64)(h2:ps=[]\/2<=ps.length):EF K (tCB (dU2 K) t) ρ ((sp ps).map pD):=by
 have e:ps.map pD=(ps.map toL).map tI:=by rw[Ae3];rfl
 rw[e]at c;rw[<- cO8];exact cL9 c (λt s=>by obtain⟨x,_,rfl⟩:=Aa8.mp s;simp[toL]) (by rcases h2 with rfl | h2;exact .inl rfl;exact .inr (by rw[Aa3];exact h2)) (by rw[Aa3];exact j) (C8 _) (Q0 _)
theorem eE4 (T:Tx K mg a):J6 P w K mg base CX0 3 a.k7 a.l5 ["_law_drawing", "_law_found"] (spV K dZ8):=by
 have Y := @dZ9 P w K mg base a T
 refine T.U0.F.ok sc__law_are_arrows (S7 (by rintro ds d ⟨_,_,_,_,_,_,rfl,_⟩;rfl)) (λcdv A outer s H vs Q E hr h=>?_)
 obtain⟨ds,S,d,hS,r,⟨m,c,tr,ps,B,R,rfl,rfl⟩,q⟩:=h;refine⟨_,(A6 (N0 (PW.pt (bD7 (W8 (P3 (B4 (dF4 K) RR T.N6 boot_isinstance (A0 (pv 1) (A0 (bJ0 rfl T.N5 boot_tuple) A4))))) (bD7 (W8 (P3 (pcl Y hr T.aE9 (A0 (pv 1) (A0 A8 A4))))) (aY8 (C3 (bK4 K hr) (J9 (eE0 K) RR T.aJ1 boot_list (A0 (pv 1) A4)) (B4 (bV4 K) RR T.L4 boot_sorted (A0 (pv 1) A4)) (E9 _)))))) (A9 (C0 Y2)) F0)
   (A6 (psS 2 sc__law_are_arrows (C4 A4))
   (A6 (J5 Al rfl (K1 rfl T.J8 (A0 (B4 (aK1 K) RR T.O4 Av (A0 (pv 0) A4)) A4)) (pgN 3 sc__law_are_arrows) (A9 (J5 Al rfl (O9 (B5 (ixK K) (pv 0) (pv 3))) (pgN 4 sc__law_are_arrows) (A9 (N0 (PW.pt (aJ6 (C3 aU3 (pv 3) (pv 4) (E9 _)) (aX6 (C3 aI9 (pv 4) A8 (E9 _))))) (A9 (E4 (G7 Ab1 Ag Af D3 (pv 2) (A0 (D0 (A0 (pv 3) (A0 (pv 4) A4))) A4)))) F0)))))
   (A6 (N0 (C3 (bK4 K hr) (B4 (L5 K) RR T.L4 boot_sorted (A0 (K2 (T:=["_law_arrow"]) (is:=[]) rfl (.of rfl) (O9 (pv 1)) (G3 DD) λ_ _ _ _=>⟨(E2 (i:=0) (by decide +kernel:(["_law_arrow"]:AJ).Nodup) rfl (Or.inl rfl)),K9,(D0 (A0 (B4 (aT4 K rfl) RR T.bA8 boot_min (A0 (pv 0) A4)) (A0 (B4 (bJ7 K rfl) RR T.cK9 boot_max (A0 (pv 0) A4)) A4)))⟩) A4)) (B4 (L5 K) RR T.L4 boot_sorted (A0 (pv 2) A4)) (E9 _)) (A9 (C0 Y2)) F0)
   (A6 (aC3 (i:=5) sc__law_are_arrows.nd rfl (Or.inr rfl) (K2 (T:=["_law_arrow"]) (is:=[]) rfl (.of rfl) (O9 (pv 1)) (G3 DD) λ_ _ _ _=>⟨(E2 (i:=0) (by decide +kernel:(["_law_arrow"]:AJ).Nodup) rfl (Or.inl rfl)),K9,(B5 (ixK K) (pv 0) A8)⟩))
   (A9 (C0 (B4 (aG2 K rfl) RR T.bJ1 boot_all (A0 (K2 (T:=["_law_p"]) (is:=[5]) rfl (.of rfl) (aS6 rfl T.J8 (A0 A8 (A0 (B4 (aK1 K) RR T.O4 Av (A0 (pv 0) A4)) A4))) (G3 DD) λ_ _ _ _=>⟨(E2 (i:=0) (by decide +kernel:(["_law_p", "_law_outs"]:AJ).Nodup) rfl (Or.inl rfl)),K9,(X7 aZ6 (dQ3 K Ab1 PySem.F.slot_list_count PySem.F.type_list_count (cM0 K) (pv 1) (A0 (pv 0) A4)) A8 (E9 _))⟩) A4))))))))),G1 hS r ?_ q⟩
 have hl:=R.ai.len
 have m7:=B.m7
 have hdl:=B.len
 have X:((c.map tN).length:Int)=m+3:=by rw[Aa3,hdl];rfl
 have h2:ps=[]\/2<=ps.length:=by
  match ps,R with
  | [],_=>exact .inl rfl
  | [u],R=>
   exfalso
   obtain⟨p,q,rfl,hp⟩:=R.nat Az
   have:=R.outs (R.o3.co _ _ hp) (B.lt (R.o3.tie _ _ hp))
   simp at this
  | _::_::_,_=>exact .inr SS
 have s1:=cN0 (K:=K) (ρ:=[vD c,.val (.tuple (ps.map pD)),.no,.no,.no,.no]) (A3 v1 A7) aH7 h2
 rw[R.srt]at s1;have en1:=cJ4 (m:=false) (EF.e' (dE3 (A3 v1 A7) rfl (T6 _))) (EF.e' s1) (aR5 _) (aR5 _);rw[cS1,Am rfl]at en1;refine B1 (X2 (bZ9 (aB1 (t_b (cI7 (d:=.tuple (ps.map pD)) (A5 rfl)))) λ_=>bZ9 (aB1 (t_b (C6 (A3 (A5 rfl) (A3 (B0) A7)) ⟨ps,aK6,rfl,rfl⟩))) λ_=>C2 en1) (λh=>by cases h) (λ_=>G6 ?_))
 refine B1 (E1 (E6 A7) ?_ (show 2<6 by decide))
 refine B1 (N2 (T4 (A3 (P4 (A3 (A5 rfl) A7)) A7) (by rw[X];lia) (by rw[X];lia)) (λi ρ=>∃D U,(D.nb=true/\U.nb=true)/\ρ=[vD c,.val (.tuple (ps.map pD)),.own ((ga (gt1 c) i).map pD),D,U,.no]) ⟨.no,.no,⟨rfl,rfl⟩,rfl⟩ ?_ ?_)
 .rintro i d _ J ⟨D,U,⟨b3,b4⟩,rfl⟩;obtain⟨rfl,hi⟩:=T2 J;rw[X]at hi;have hi:i<c.length:=by lia
  have hal:=bS6 B (i:=i) zq1
  have hrl:(TT.trn c i).length<=48:=by
   have h1:=B.sum
   have h2:=bT3 (h:=λp=>(TT.trn c p).length) (i:=i+1) (n:=c.length) AO
   rw[Bq,Ad2,List.sum_append]at h2;simp at h2;lia
  refine⟨_,B6,?_⟩;refine N2 (W3 (D8 (A5 rfl) (A5 rfl) rfl (M6 i rfl (by rw[Aa9,bL4 hi];rfl)))) (λj ρ=>∃U,U.nb=true/\ρ=[vD c,.val (.tuple (ps.map pD)),.own ((ga (gt1 c) i++(((TT.trn c i).take j).filter λq=>decide (i<q)&&decide (q>2)).map λ(q:Nat)=>((i:Int),(q:Int))).map pD),vI i,U,.no]) ⟨U,b4,by simp only[List.take_zero,List.filter_nil,Cw,Bf];rfl⟩ ?_ ?_
  .rintro j d _ J ⟨U,b4,rfl⟩;unfold nI at J;rw[Aa9]at J;obtain⟨x,hx,rfl⟩:=Ay.mp J;have hj:=(Ab0.mp hx).1;have et:(TT.trn c i).take (j+1)=(TT.trn c i).take j++[x]:=by rw[Dc,hx];rfl
   refine⟨_,B6,?_⟩;refine X2 (b:=decide (i<x)&&decide (x>2)) ?_ (λh=>J4 rfl (G0 (A3 (A5 rfl) (A3 (A5 rfl) A7))) ?_ ⟨.val (.int x),rfl,?_⟩) (λh=>G6 ⟨.val (.int x),rfl,?_⟩)
   .have ht:=aM5 (K:=K) (ρ:=[vD c,.val (.tuple (ps.map pD)),.own ((ga (gt1 c) i++(((TT.trn c i).take j).filter λq=>decide (i<q)&&decide (q>2)).map λ(q:Nat)=>((i:Int),(q:Int))).map pD),vI i,vI x,.no]) (C2 (aB2 (g:=λi j=>decide (i<j)) v3 v4)) (λ_=>C2 (aB2 (g:=λi j=>decide (i>j)) v4 (B0 (i:=2))))
    have eb:(decide ((i:Int)<x)&&decide ((x:Int)>2))=(decide (i<x)&&decide (x>2)):=by
     congr 1
     .exact Bc.mpr SS
     .exact Bc.mpr LL
    rw[eb]at ht;exact ht
   .rw[Aa3,Ab7,Aa3]
    have:=List.length_filter_le (λq=>decide (i<q)&&decide (q>2)) ((TT.trn c i).take j)
    rw[Ad1]at this;unfold sizeLine;lia
   .have em:(ga (gt1 c) i++(((TT.trn c i).take (j+1)).filter λq=>decide (i<q)&&decide (q>2)).map λ(q:Nat)=>((i:Int),(q:Int))).map pD=(ga (gt1 c) i++(((TT.trn c i).take j).filter λq=>decide (i<q)&&decide (q>2)).map λ(q:Nat)=>((i:Int),(q:Int))).map pD++[pD (i,x)]:=by
     rw[et,Bn,List.filter_cons,Ac h];simp
    rw[em];rfl
   .rw[et,Bn,List.filter_cons,Ab (by simp[h]),List.filter_nil,Bf];rfl
  .rintro _ ⟨U,b4,rfl⟩;refine⟨.val (.int i),U,⟨rfl,b4⟩,?_⟩;rw[P8,C9,Co];rfl
 rintro _ ⟨D,U,⟨b3,b4⟩,rfl⟩;have e:(S6 0 ((c.map tN).length:Int).toNat).length=c.length:=by rw[N3,X,hdl];rfl
 rw[e];have hal:=bS6 B (Aa7 _);have cm:=F8 (K:=K) (m:=true) (ρ:=[vD c,.val (.tuple (ps.map pD)),.own ((bS5 c).map pD),D,U,.no]) (n:=1) (is:=[]) (g:=F4 0) (te:=bQ4 (E8 (tCB (λxs H Q=>∃(p:Addr) (l:AF),xs=[.ref p]/\SqT K H p (l.map V.int)/\l≠[]/\∀M,M∈l->(∀a∈l,M<=a)->Q (.int M) H) (E8 (F6 0) R3)) (E8 (tCB (λxs H Q=>∃(p:Addr) (l:AF),xs=[.ref p]/\SqT K H p (l.map V.int)/\l≠[]/\∀M,M∈l->(∀a∈l,a<=M)->Q (.int M) H) (E8 (F6 0) R3)) R3))) fMm (W3 v1) (by simp  [Aa3];unfold sizeLine;exact aH7) (λd J=>by
  obtain⟨x,hx,rfl⟩:=Aa8.mp J;refine⟨_,B6,Z9,?_⟩;refine G0 (A3 (cC2 (M:=min x.1 x.2) (A3 (A5 rfl) A7) ?_) (A3 (cX4 (M:=max x.1 x.2) (A3 (A5 rfl) A7) ?_) A7)) <;>
  .simp only[Aa1,Ac2,or_false];exact⟨LL,λz hz=>by lia⟩)
 rw[cG0]at cm;have s3:=m6 (A3 (EF.e' cm) A7) (by simp  [Aa3];exact aH7)
 rw[cF8 (R.mmp B)]at s3;have en2:=cJ4 (m:=false) (EF.e' s3) (EF.e' (m6 (A3 (G9 (i:=2) rfl) A7) (by unfold bS5;exact aH7))) (aR5 _) (aR5 _)
 rw[cS1,Am rfl]at en2;refine B1 (X2 (C2 en2) (λh=>by cases h) (λh=>G6 ?_))
 have co:=F8 (m:=true) (ρ:=[vD c,.val (.tuple (ps.map pD)),.own ((bS5 c).map pD),D,U,.no]) (n:=1) (is:=[]) (g:=F4 0) (te:=tOp (rIx K) (F6 0) (tC (.int 0))) fFs (W3 v1) (by simp  [Aa3];unfold sizeLine;exact aH7) (λd J=>by
  obtain⟨x,hx,rfl⟩:=Aa8.mp J;exact⟨_,B6,Z9,D8 (A5 rfl) B0 rfl rfl⟩)
 rw[cG8]at co;refine B1 (E1 co ?_ (show 5<6 by decide))
 refine bH6 (i:=5) rfl ?_;have cc:=F8 (K:=K) (m:=true) (ρ:=[vD c,.val (.tuple (ps.map pD)),.own ((bS5 c).map pD),D,U,.val (lI (ps.map Prod.fst))]) (g:=F4 0) (λ_=>some (.bool true)) (bZ4 (A3 (B0 (i:=3)) (A3 (P4 (A3 v0 A7)) A7)) (by rw[X];lia)) (by rw[N3,X];unfold sizeLine;lia) (λd J=>by
  obtain⟨i,hi⟩:=List.mem_iff_getElem?.mp J;obtain⟨rfl,hi⟩:=cF4 hi;rw[X]at hi;refine⟨_,B6,Z9,?_⟩;have e:=aA3 (K:=K) (m:=true) (ρ:=(slC [vD c,.val (.tuple (ps.map pD)),.own ((bS5 c).map pD),D,U,.val (lI (ps.map Prod.fst))] 1 [5]).set 0 (.val (.int (3+i)))) (cY7 v1 v0) (B0 (i:=3));rw[show(3+i)=((3+i:Nat):Int) by rfl,R.outs SS LL]at e
  rw[show(3+i)=((3+i:Nat):Int) by rfl]
  exact e)
 have ce:∀L:AG,L.filterMap (λ_=>some (PyData.bool true))=(L.map λ_=>true).map PyData.bool:=λL=>by induction L with
  | nil=>rfl
  | cons x L ih=>rw[Be,ih];rfl
 rw[ce]at cc;refine K0 (cJ5 (A3 (EF.e' cc) A7)) ?_;rw[List.all_map]
 simp
end
set_option maxHeartbeats 1000000
theorem aA0:B8 ["_law_script", "_law_m", "_law_drawing", "_law_outs", "_law_one", "_law_other", "_law_low", "_law_high", "_law_arrows_here"] ["_law_script"] (B3 cT5):={}
def cF3 (K:Frag):Sp:=λvs H Q _=>∃(a:Addr) (ns:AF),vs=[.ref a]/\SqL K H a (ns.map V.int)/\ns.length<=63/\∀H',Q (.bl true) H'
def bZ3 (xs:AF)(lo hi:Option Int):AF:=List.take (HT.sIx xs.length xs.length hi-HT.sIx xs.length 0 lo) (List.drop (HT.sIx xs.length 0 lo) xs)
theorem dK0 (xs:AF)(lo hi:Option Int):LV.aD6 (xs.map PyData.int) lo hi=(bZ3 xs lo hi).map PyData.int:=by
 unfold LV.aD6 bZ3;rw[Aa3,List.map_take,List.map_drop]
theorem dG0 (xs:AF)(lo hi:Option Int):(bZ3 xs lo hi).length<=xs.length:=by
 unfold bZ3;rw[Ad1,Bm];lia
theorem cX2:∀l:AF,l≠[]->∃M,M∈l/\∀a∈l,M<=a
 | [],h=>absurd rfl h
 | [x],_=>⟨x,SS,λa ha=>by rw[Ad8.mp ha];exact Int.le_refl _⟩
 | x::y::l,_=>by
  obtain⟨M,h1,e⟩:=cX2 (y::l) SS
  by_cases c:x<=M
  .exact⟨x,SS,λa ha=>by
    rcases Aa1.mp ha with rfl | ha
    .exact Int.le_refl _
    .exact Int.le_trans c (e a ha)⟩
  .exact⟨M,Ad4 _ h1,λa ha=>by
    rcases Aa1.mp ha with rfl | ha
    .lia
    .exact e a ha⟩
theorem eA1 (l:AF)(h:l≠[]):∃M,M∈l/\∀a∈l,a<=M:=by
 obtain⟨M,h1,e⟩:=cX2 (l.map λx => -x) (by simpa using h)
 obtain⟨x,c,rfl⟩:=Aa8.mp h1;exact⟨x,c,λa j=>by have:=e (-a) (Aa8.mpr ⟨a,j,rfl⟩);simp_all⟩
def rl (ns:AF)(m:Nat)(dr tr:AA)(one two:List (Int×Int))(x8:Sl):List Sl:=[.val (lI ns),vI (m:Int),vD dr,vD tr,.val (.tuple (one.map pD)),.val (.tuple (two.map pD)),.val (.tuple ((eA m dr true).map pD)),.val (.tuple ((eA m dr false).map pD)),x8]
section
variable {P:Program}{w:World}{K:Frag}{mg:Str->Option Value}{base:Heap}{a:Ad}
theorem dT4 (T:Tx K mg a):J6 P w K mg base CX0 10 a.cE2 a.bV6 ["_law_script"] (cF3 K):=by
 have G__law_mixed := @aQ4 P w K mg base a T
 have U := @cJ1 P w K mg base a T
 have G__law_built := @cT3 P w K mg base a T
 have D := @dV7 P w K mg base a T
 have G__law_moved := @eB0 P w K mg base a T
 have G_lowest := @dS8 P w K mg base a T
 have G_highest := @dI8 P w K mg base a T
 have Y := @eE4 P w K mg base a T
 have M := @eA3 P w K mg base a T
 have J := @dK2 P w K mg base a T
 refine T.dM5.F.ok aA0 (by rintro vs H Q E ⟨_,_,rfl,_⟩;rfl) (λcdv A outer s H vs Q E hr h=>?_)
 obtain⟨ad,ns,rfl,hS,hl,q⟩:=h;have r:Reps K (hid (λ_=>False) H) [V.ref ad] [lI ns]:=by rw[cV1];exact .cons (.lst hS (V0 ns)) .nil
 refine⟨_,(A6 (psS 1 aA0 (B7 Z7 (pcl G__law_mixed hr T.T1 (A0 (pcl U hr T.T8 (A0 (pv 0) (A0 A8 A4))) (A0 A8 A4))) A8))
   (A6 (aS2 (pcl G__law_built hr T.aM2 (A0 (pcl U hr T.T8 (A0 (pv 0) (A0 A8 A4))) (A0 (U3 (eA8 K) (pv 0) (Q8 A8) (Q8 A8)) (A0 (pv 1) A4)))) (i9 rfl (E7 (pgN 2 aA0) (E7 (pgN 3 aA0) T3))))
   (A6 (psS 4 aA0 (pcl D hr T.aI4 (A0 (pv 3) A4)))
   (A6 (psS 5 aA0 (pcl G__law_moved hr T.aP2 (A0 (pv 4) (A0 (U3 (eA8 K) (pv 0) (Q8 A8) (Q8 A8)) A4))))
   (A6 (psS 6 aA0 (pcl G_lowest hr T.bE3 (A0 (pv 2) A4)))
   (A6 (psS 7 aA0 (pcl G_highest hr T.aT9 (A0 (pv 2) A4)))
   (A6 (N0 (PW.pt (bD7 (W8 (P3 (pcl Y hr T.U0 (A0 (pv 2) (A0 (pv 6) A4))))) (aY8 (W8 (P3 (pcl Y hr T.U0 (A0 (pv 2) (A0 (pv 7) A4)))))))) (A9 (C0 Y2)) F0)
   (A6 (N0 (PW.pt (bD7 (W8 (P3 (pcl M hr T.Z6 (A0 (pv 2) (A0 (pv 6) (A0 A8 A4)))))) (aY8 (W8 (P3 (pcl M hr T.Z6 (A0 (pv 2) (A0 (pv 7) (A0 (aU8 aE0 A8) A4))))))))) (A9 (C0 Y2)) F0)
   (A6 (J5 Al rfl (O9 (D0 (A0 (pv 4) (A0 (pv 5) A4)))) (pgN 8 aA0) (A9 (N0 (PW.pt (bD7 (C3 aU3 (B4 (aT4 K rfl) RR T.bA8 boot_min (A0 (pcl J hr T.T5 (A0 (pv 2) (A0 (pv 8) (A0 (pv 6) A4)))) A4)) A8 (E9 _)) (aY8 (C3 aI9 (B4 (bJ7 K rfl) RR T.cK9 boot_max (A0 (pcl J hr T.T5 (A0 (pv 2) (A0 (pv 8) (A0 (pv 7) A4)))) A4)) A8 (E9 _))))) (A9 (C0 Y2)) F0)))
   (A9 (C0 (bY9 (X7 (bP1 K hr) (pcl G_lowest hr T.bE3 (A0 (pv 2) A4)) (pv 6) (E9 _)) (bZ0 (X7 (bP1 K hr) (pcl G_highest hr T.aT9 (A0 (pv 2) A4)) (pv 7) (E9 _))))))))))))))),G1 (λ_ z=>z.elim) r ?_ (d:=.bool true) (λv H' _ rv=>by cases rv;exact q H')⟩
 obtain⟨m,hm⟩:∃m:Nat,mx (cl ns 0) 90 % 8=m:=⟨(mx (cl ns 0) 90 % 8).toNat,LL⟩
 have hm7:m<=7:=by lia
 refine B1 (F3 (d:=.int m) (by rw[<- hm];exact e_i (C6 (A3 (C6 (A3 (A5 rfl) (A3 B0 A7)) ⟨ns,0,DD,rfl,rfl⟩) (A3 B0 A7)) ⟨cl ns 0,90,DD,rfl,rfl⟩) B0 DD) ?_)
 obtain⟨R,tr,B⟩:=dX2 (TT.u5 (nu (cl ns 1) (bZ3 ns (some 2) (some 9))) m) (dY0 (cl ns 1) m);have dw:Dw m R tr:=⟨hm7,_,_,_,B⟩;refine B1 (cZ7 (m:=true) (C6 (A3 (C6 (A3 (A5 rfl) (A3 (B0) A7)) ⟨ns,1,DD,rfl,rfl⟩) (A3 (EF.e' (cL2 (A5 rfl) (X4 B0) (X4 B0) (o8 ns))) (A3 (A5 rfl) A7))) ⟨cl ns 1,bZ3 ns (some 2) (some 9),m,R,tr,hm7,B,by rw[dK0],rfl⟩) (aD5 (G4 B6 (G4 B6 Z4))) ?_)
 have ar0:=bX8 dw
 refine B1 (F3 (C6 (A3 (A5 rfl) A7) ⟨m,R,tr,dw,rfl,rfl⟩) ?_);refine B1 (cX9 (A3 (A5 rfl) (A3 (by have e:=cL2 (K:=K) (ρ:=[.val (lI ns),vI m,vD R,vD tr,.val (.tuple ((sp (arr tr)).map pD)),.no,.no,.no,.no]) v0 (X4 (B0 (i:=9))) (X4 (B0 (i:=15))) (o8 ns);rw[dK0]at e;exact EF.e' e) A7)) ⟨m,R,tr,sp (arr tr),bZ3 ns (some 9) (some 15),dw,ar0,Aq (dG0 _ _ _) hl,rfl,rfl⟩ ?_)
 rintro _ ⟨two,rfl,ar2⟩;generalize sp (arr tr)=one at ar0;refine B1 (F3 (C6 (A3 (A5 rfl) A7) ⟨m,R,tr,dw,rfl,rfl⟩) ?_);refine B1 (F3 (C6 (A3 (A5 rfl) A7) ⟨m,R,tr,dw,rfl,rfl⟩) ?_);show W K _ (rl ns m R tr one two .no) _;have en:∀(s:Bool) {qs:List (Int×Int)},Ar m R qs->Ar m R (eA m R s)/\(∀a b c,TT.Rn (pA (eA m R s)) a b c->¬TT.Si (TT.trn R) s a b c)/\∃H,TT.Po (TT.trn R) (uA qs) (uA (eA m R s)) H/\∀p q,0<=sg s*H p q:=λs qs aq=>(cQ5 dw).end_ dw s aq
 obtain⟨al,nl,_⟩:=en true ar0;obtain⟨ah,nh,_⟩:=en false ar0;refine B1 (X2 (bZ9 (aB1 (t_b (C6 (A3 (A5 rfl) (A3 (A5 rfl) A7)) ⟨m,R,tr,_,dw,al,rfl,rfl⟩))) λ_=>aB1 (t_b (C6 (A3 (A5 rfl) (A3 (A5 rfl) A7)) ⟨m,R,tr,_,dw,ah,rfl,rfl⟩))) (λh=>by cases h) (λ_=>G6 ?_))
 refine B1 (X2 (bZ9 (aB1 (t_b (C6 (A3 (A5 rfl) (A3 (A5 rfl) (A3 (B0) A7))) ⟨m,R,tr,_,true,dw,al,nl,rfl,rfl⟩))) λ_=>aB1 (t_b (C6 (A3 (A5 rfl) (A3 (A5 rfl) (A3 (aV2 (B0)) A7))) ⟨m,R,tr,_,false,dw,ah,nh,rfl,rfl⟩))) (λh=>by cases h) (λ_=>G6 ?_))
 have hne:∀H,(X9 m R).map (hI H)≠[]:=λH e=>by
  have:=congrArg List.length e
  have hi:=aY1 dw
  rw[Aa3,List.length_nil]at this
  lia
 refine B1 (N2 (W3 (G0 (A3 (A5 rfl) (A3 (A5 rfl) A7)))) (λi ρ=>∃x8,ρ=rl ns m R tr one two x8) ⟨.no,rfl⟩ ?_ ?_)
 .rintro i d _ hd ⟨x8,rfl⟩;obtain⟨qs,aq,rfl⟩:∃qs,Ar m R qs/\d=.tuple (qs.map pD):=by
   have:=Aw hd
   simp  [Aa1,Ac2,or_false]at this
   rcases this with rfl | rfl
   .exact⟨_,ar0,rfl⟩
   .exact⟨_,ar2,rfl⟩
  refine⟨_,B6,?_⟩;obtain⟨_,_,H1,p1,g1⟩:=en true aq;obtain⟨_,_,H2,p2,g2⟩:=en false aq;obtain⟨M1,n1,i1⟩:=cX2 _ (hne H1);obtain⟨M2,n2,i2⟩:=eA1 _ (hne H2);have t1:=aB2 (K:=K) (m:=false) (ρ:=rl ns m R tr one two (.val (.tuple (qs.map pD)))) (g:=λi j=>decide (i<j)) (cC2 (A3 (C6 (pre:=cE4) (X:=E0) (A3 v2 (A3 v8 (A3 v6 A7))) ⟨m,R,tr,qs,_,H1,dw,p1,rfl,rfl⟩) A7) ⟨n1,i1⟩) (B0 (i:=0))
  have t2:=aB2 (K:=K) (m:=false) (ρ:=rl ns m R tr one two (.val (.tuple (qs.map pD)))) (g:=λi j=>decide (i>j)) (cX4 (A3 (C6 (pre:=cE4) (X:=E0) (A3 v2 (A3 v8 (A3 v7 A7))) ⟨m,R,tr,qs,_,H2,dw,p2,rfl,rfl⟩) A7) ⟨n2,i2⟩) (B0 (i:=0))
  have z1:¬M1<0:=by
   obtain⟨t,ht,rfl⟩:=Aa8.mp n1;obtain⟨p,q',_,_,e⟩:=aS3 dw p1 ht
   have:=g1 p q'
   rw[show sg true=1 from rfl]at this
   simp_all
  have z2:¬M2>0:=by
   obtain⟨t,ht,rfl⟩:=Aa8.mp n2;obtain⟨p,q',_,_,e⟩:=aS3 dw p2 ht
   have:=g2 p q'
   rw[show sg false = -1 from rfl]at this
   simp_all
  rw[Aj z1]at t1;rw[Aj z2]at t2;exact X2 (bZ9 (C2 t1) λ_=>C2 t2) (λh=>by cases h) (λ_=>G6 ⟨_,rfl⟩)
 rintro _ ⟨x8,rfl⟩;have eq:∀(s:Bool) (j:Nat),(rl ns m R tr one two x8)[j]? = some (.val (.tuple ((eA m R s).map pD)))->LV.E K false (tOp (cO5 K false) (o6 (spV K (cK8 s)) [] E0 (E8 (F6 2) R3)) (F6 j)) (rl ns m R tr one two x8) (.bool true):=λs j hj=>by
  have e:=dA8 (K:=K) (m:=false) (C6 (pre:=cK8 s) (X:=E0) (A3 v2 A7) ⟨m,R,tr,dw,rfl,rfl⟩) (A5 hj) (aB9 _) (aB9 _)
  rw[dU5,Am rfl]at e;exact e
 exact K0 (cQ9 (eq true 6 rfl) λ_=>eq false 7 rfl) rfl
end
theorem fin_of {l:PySem.W.OpenLaw}{w:World}{fa f:Addr}{K:Frag}{mg:Str->Option Value}(j:mg "law" = some (.ref fa))(h:∃a:Ad,Tx K mg a/\a.cE2=f/\∀(s:Shared) (v:Value),BindsTo s a.bV6 ⟨[v],[]⟩ [("_law_script",v)])
  : ∃fd:FuncData,(∀(s:Shared) (v:Value),BindsTo s fd ⟨[v],[]⟩ [("_law_script",v)])/\∀base:Heap,K.In base->base.Ns mainGlobals mg->J6 l.prog w K mg base CX0 10 fa fd ["_law_script"] (cF3 K):=by
 obtain⟨a,T,Y,c⟩:=h;have e:=j.symm.trans T.dM5.m;cases e;exact⟨a.bV6,c,λbase _ _=>dT4 T⟩
theorem walk {l:PySem.W.OpenLaw}{q:Program}{loose:AJ}{XP:(Str->Option Value)->Heap->Prop}{YP:World->Heap->Prop}{d:DefRec}{K:Params->Frag}(Y:l.most=some 63)(e:d.params.defaults=[])
  (c:∀(w:World) (h:Heap),YP w h->(K w.params).In h)
  (F:∀(w:World) (mg:Str->Option Value) (fa:Addr) (h:Heap),(K w.params).In h->h.Ns mainGlobals mg->mg d.name=some (.ref fa) ->
   ∃fd:FuncData,(∀(s:Shared) (u:Value),BindsTo s fd ⟨[u],[]⟩ [("_law_script",u)])/\∀base:Heap,(K w.params).In base->base.Ns mainGlobals mg->J6 l.prog w (K w.params) mg base CX0 10 fa fd ["_law_script"] (cF3 (K w.params))) :
  PySem.W.WalkO q loose XP YP l.row.toRowW d [] (λf vs=>PySem.call f vs):=
 L2.dJ6 (n:=63) (k:=10) (x := "_law_script") (CX:=λ_=>CX0) (sp:=λw=>cF3 (K w.params)) Y DD e ⟨rfl,DD,DD⟩ c F (λ_ _ a X m _ j=>⟨a,X,rfl,j,m,λ_=>rfl⟩) λ_ _ _ _ _ z=>z
end K37
namespace PySem.W.Fast
def N:=Nat
def tw4759967150913639984:=N
def tw15748899274445874908:=N
def tw12392937240647007445:=N
def tw10489801135620058435:=N
def tw12947113996101123267:=N
def tw18074129835637626952:=N
def tw11249267580971169697:=N
def tw6317208869084494245:=N
def tw18131286452738577962:=N
def tw7908923031920997373:=N
def tw2596251250903870604:=N
def tw5542147332840416693:=N
def tw4592885990390486260:=N
def tw17132275951378318579:=N
def tw7449137814526312786:=N
def tw4130449947515222880:=N
def tw1689804211476951246:=N
def tw15520507075807248495:=N
def tw13354018536857624303:=N
def tw7043758293703334699:=N
def tw14693082786327870474:=N
def tw7945353280516826775:=N
def tw17604844378954667927:=N
def tw12614370720957815693:=N
def tw704971339483030214:=N
def tw14968628807958684726:=N
def tw12875931227073013433:=N
def tw5971387512137318850:=N
def tw9694285557852084972:=N
def tw5888543409599118626:=N
def tw3666460910813922999:=N
def tw12400359313278422151:=N
def tw15854042760896382089:=N
def tw11651133116794717663:=N
def tw4070644290293028421:=N
def tw5060164041497654551:=N
def tw113399454994563502:=N
def tw9257388544004142559:=N
def tw14925434548931727292:=N
def tw9922629713363813070:=N
def tw8593058250007603397:=N
def tw4266599594710439141:=N
def tw17198887660817821309:=N
def tw4692632771334072764:=N
def tw9824437790658048493:=N
def tw5573414869853174745:=N
def tw4189511635522210995:=N
def tw12531099685085112208:=N
def tw14005644807083674708:=N
def tw14679056569210134061:=N
def tw11464382409889282582:=N
def tw8918890809140972308:=N
def tw1661276330404415412:=N
def tw13291813150772959268:=N
def tw16317724643319150567:=N
def tw2826992936408222824:=N
def tw11661814024271768185:=N
def tw4031841668969100442:=N
def tw15151441669311651588:=N
def tw5651821098856379659:=N
def tw10243087408044853998:=N
def tw12340689807083470709:=N
def tw9363355860529893219:=N
def tw15824871622073122265:=N
def tw7784170965802251749:=N
def tw10890350295248767727:=N
def tw14552274559884442947:=N
def tw14704749682710903269:=N
def tw6601082947484522201:=N
def tw7455939730830339900:=N
def tw5945173608719630452:=N
def tw13788533225531423196:=N
def tw10663187116039940216:=N
def tw9093068319834599431:=N
def tw2104795533701548083:=N
def tw13743840100747387524:=N
def tw7668472709466550361:=N
def tw3938920623909665784:=N
def tw7678902200943778067:=N
def tw10310491602052821465:=N
def tw17462356754914188810:=N
def tw9614456641395132187:=N
def tw10053374627633487028:=N
def tw8532752194424510371:=N
def tw3978764933919141575:=N
def tw1907330149638769038:=N
def tw1171092109497962248:=N
def tw13938097781293806655:=N
def tw5140650755530139832:=N
def tw12783519221804774928:=N
def tw4815944189034172470:=N
def tw15550313112669589738:=N
def tw6111885512373728683:=N
def tw4629788904314753302:=N
def tw10473642158884765502:=N
def tw5272196204453284042:=N
def tw4615452035309312121:=N
def tw2635072049319510886:=N
def tw15576218030051578527:=N
def tw5363871598171723776:=N
def tw2849955684676674156:=N
def tw15095462008777095215:=N
def tw3718709372666060416:=N
def tw846474849435050405:=N
def tw9913126230740578172:=N
def tw5411156511689696086:=N
def tw12234179938276554177:=N
def tw9757095413710318630:=N
def tw1626435611366719516:=N
def tw10661099014497490725:=N
def tw8848426436790122181:=N
def tw6216893343309243032:=N
def tw2598997614035215021:=N
def tw7828487797178558468:=N
def tw13136852616315206424:=N
def tw4857819080888822982:=N
def tw10889518145529931360:=N
def tw4223705411766102496:=N
def tw14765528377211747630:=N
def tw17108440758688950707:=N
def tw353798372588990892:=N
def tw10262113245529297980:=N
def tw460120851007365731:=N
def tw4759277003516479793:=N
def tw2395631356321322613:=N
def tw4542831654067306604:=N
def tw10328907982925905155:=N
def tw4630097303660660169:=N
def tw635994165597084121:=N
def tw9068786889005206809:=N
def tw9997546089331736411:=N
def tw7334023210587808188:=N
def tw15142765008871302716:=N
def tw4737651898979146931:=N
def tw8170790013313859116:=N
def tw17679210258932326747:=N
def tw9267443843338137072:=N
def tw8167708083843658169:=N
def tw14828213800898352914:=N
def tw2770972268588833881:=N
def tw6507889512382022976:=N
def tw15324334695227515822:=N
def tw1004384921252421998:=N
def tw1700353964756107953:=N
def tw5426108494682107301:=N
def tw6123897152977728881:=N
def tw964182064751286682:=N
def tw4923204591672958630:=N
def tw8338158053422925412:=N
def tw16069157024726655193:=N
def tw16916970787867010417:=N
def tw13846922383569883911:=N
def tw16105775022575691443:=N
def tw2208297973001843757:=N
def tw6483394140402862123:=N
def tw7828078226392834253:=N
def tw12789790484391515194:=N
def tw12913998051214995335:=N
def tw480137169680854931:=N
def tw14379219757184972140:=N
def tw15818503979819028621:=N
def tw11612769929403487245:=N
def tw11219795006965862927:=N
def tw6228806387737327763:=N
def tw5164143192132461906:=N
def tw13176512301287971199:=N
def tw3032857810199019532:=N
def tw17649128038743159466:=N
def tw8251734897465011167:=N
def tw12149012651737692315:=N
def tw16598741771788732872:=N
def tw4058358994100078717:=N
def tw2369812869344928818:=N
def tw4887756206130563764:=N
def tw15876871873512542075:=N
def tw9205570083865894439:=N
def tw15185542972239325956:=N
def tw17261457686782286975:=N
def tw14537718488768002008:=N
def tw1928689306361043657:=N
def tw4944087443253336615:=N
def tw4424177798861793277:=N
def tw9090138920931942455:=N
def tw9501917699889504451:=N
def tw3401753581943262264:=N
def tw16751864608854498850:=N
def tw1304363438611297130:=N
def tw12404253551988492253:=N
def tw5077386185676851784:=N
def tw1623962081510160000:=N
def tw15657826570965509230:=N
def tw3688357744035545220:=N
def tw1102698639975943783:=N
def tw14688169177942698471:=N
def tw11425712974600563312:=N
def tw2522467333523407810:=N
def tw9992591583840432221:=N
def tw10907322268333236101:=N
def tw9572844386001196086:=N
def tw13428090019584187440:=N
def tw6606027359179014570:=N
def tw18309432768820789242:=N
def tw4894609015807984366:=N
def tw4445749322958172845:=N
def tw4816590454820377292:=N
def tw10018290692869804818:=N
def tw6203165058149618390:=N
def tw853624463869603326:=N
def tw8991680837554852085:=N
def tw1884089975058259638:=N
def tw17594368958838849005:=N
def tw12111125191539701106:=N
def tw1448250060870148938:=N
def tw2984435718196590244:=N
def tw10044693084615932592:=N
def tw12518558797129730616:=N
def tw2750943959524944420:=N
def tw4828343880291210147:=N
def tw16028068647073825534:=N
def tw11626341344585316174:=N
def tw15984080045152476706:=N
def tw16205402774275074616:=N
def tw11999013035278458865:=N
def tw11953856606599623856:=N
def tw4718022008039903501:=N
def tw15440931316547220169:=N
def tw11144553778772750999:=N
def tw8510422517948926140:=N
def tw16415908373607246707:=N
def tw6890215203005709364:=N
def tw7923367257284461125:=N
def tw3462571624144068000:=N
def tw11857358616036608450:=N
def tw15669442398751388604:=N
def tw12774826360083094884:=N
def tw2278942370225572389:=N
def tw12363002664229752421:=N
def tw15222309426941683389:=N
def tw3654070381773943076:=N
def tw4758789179612862103:=N
def tw8961106819809476461:=N
def tw2325582220764506395:=N
def tw7527900192982971421:=N
def tw18013580341008639227:=N
def tw14944113580541803444:=N
def tw1741676840170167436:=N
def tw16442267433396205166:=N
def tw14914933728370623941:=N
def tw18242652553996025515:=N
def tw4288302660942274567:=N
def tw3787114470832103397:=N
def tw10310845352124974218:=N
def tw5680997220027002419:=N
def tw11487006199734966820:=N
def tw1541272727905467564:=N
def tw9736354159586860965:=N
def tw11713788464856133552:=N
def tw8532252386058458590:=N
end PySem.W.Fast
open PySem PySem.W PyProof.Rows
set_option maxRecDepth 100000 in
set_option maxHeartbeats 0 in
theorem PySem.Challenge.cw_threetrees_k37_lowest_and_highest_holds : PySem.Challenge.rw_threetrees_k37_lowest_and_highest.Holds := by
 w_on;o_law;k_head;(case hw=>w_witness2)
 k_fill
 refine K37.walk (l:=PySem.Challenge.rw_threetrees_k37_lowest_and_highest) rfl rfl (λw h Y=>PySem.W.kIn_of Y) ?F
 case F=>
  intro w mg fa h KX G hmg;refine' K37.fin_of hmg (K37.tx_mk KX G ⟨_,L2.D4 _ _ _⟩ ⟨_,L2.D4 _ _ _⟩ ⟨_,L2.D4 _ _ _⟩ ⟨_,L2.D4 _ _ _⟩ ⟨_,L2.D4 _ _ _⟩ ⟨_,L2.D4 _ _ _⟩ ⟨_,L2.D4 _ _ _⟩ ⟨_,L2.D4 _ _ _⟩ ⟨_,L2.D4 _ _ _⟩ ⟨_,L2.D4 _ _ _⟩ ⟨_,L2.D4 _ _ _⟩ ⟨_,L2.D4 _ _ _⟩ ⟨_,L2.D4 _ _ _⟩ ⟨_,L2.D4 _ _ _⟩ ⟨_,L2.D4 _ _ _⟩ ⟨_,L2.D4 _ _ _⟩ ⟨_,L2.D4 _ _ _⟩ ⟨_,L2.D4 _ _ _⟩ ⟨_,L2.D4 _ _ _⟩ ⟨_,L2.D4 _ _ _⟩ ⟨_,L2.D4 _ _ _⟩ ⟨_,L2.D4 _ _ _⟩ ⟨_,L2.D4 _ _ _⟩ ⟨_,L2.D4 _ _ _⟩ ⟨_,L2.D4 _ _ _⟩ ⟨_,L2.D4 _ _ _⟩ ⟨_,L2.D4 _ _ _⟩ ⟨_,L2.D4 _ _ _⟩ ⟨_,L2.D4 _ _ _⟩ ⟨_,L2.D4 _ _ _⟩ ⟨_,L2.D4 _ _ _⟩ ⟨_,L2.D4 _ _ _⟩ ⟨_,L2.D4 _ _ _⟩ ⟨_,L2.D4 _ _ _⟩ ⟨_,L2.D4 _ _ _⟩ ⟨_,L2.D4 _ _ _⟩ ⟨_,L2.D4 _ _ _⟩ ⟨_,L2.D4 _ _ _⟩ ⟨_,L2.D4 _ _ _⟩ ⟨_,L2.D4 _ _ _⟩ ⟨_,L2.D4 _ _ _⟩ ⟨_,L2.D4 _ _ _⟩ ⟨_,L2.D4 _ _ _⟩ ⟨_,L2.D4 _ _ _⟩ _ _ _ _ _ _ _ _ _ _ _ _ _ _ _ _ _ _ _)
  any_goals first | k_is | k_exc | kernel_rfl
