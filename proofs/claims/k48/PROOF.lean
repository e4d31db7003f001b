
import PyProof.Rows.All
import Wide.All
import OpenK.AllK
import Wide.FinOn
import Lean
import PyProof.EqAt
import PyProof.EqKinds
import PyProof.TupleCall
import KE.KDictList
import PyProof.Rows.StrKeys3
import PyProof.Rows.StrWeight2
import PyProof.SliceStr2
import PyProof.StrLaws
import PyProof.Rows.Range3
import PyProof.Rows.TupDisplay
import PyProof.ZipIter
import PyProof.Rows.SortRuns
import PyProof.Rows.SortKeyStr
import PyProof.Rows.StrRules
import PySem.SetTable
import PyProof.SetScanFacts
import PyProof.SetKind
import PyProof.FactsAll.tuple_iterator
import PySem.Challenge.RW_threetrees_k48_whole_each_pair_its_own_d
set_option genSizeOfSpec false
set_option linter.all false
set_option Elab.async false
set_option maxRecDepth 100000
set_option linter.defProp false
abbrev AA:=List (List Nat)
abbrev AB:=List Nat
abbrev AC:=List Int
abbrev AD:=List PySem.PyData
abbrev AF:=List PySem.Value
abbrev AG:=List PySem.Str
abbrev AH:=Array PySem.Value
abbrev AJ:=Option PySem.Addr
abbrev AK:=List PySem.Addr
abbrev AL:=List PySem.Expr
def Aa:=@PySem.wpAny_bind
def Ab:=@PySem.wpAny_pure
def Ac:=@if_neg
def Ae:=@if_pos
def Af:=@PySem.F.type_list_append
def Ag:=@PySem.F.slot_list_append
def Ah:=@PySem.boot_len
def Ai:=@PySem.W.mg_of
def Aj:=@PySem.PassesOwn.never
def Ak:=@List.filterMap_cons
def Al:=@Bool.false_ne_true
def Am:=@of_decide_eq_true
def An:=@PyProof.Rows.callWith_type1
def Ao:=@List.drop_eq_getElem_cons
def Ap:=@Array.length_toList
def Aq:=@List.mem_append_left
def Ar:=@List.mem_of_getElem?
def As:=@List.mem_of_mem_take
def Au:=@List.getElem?_append_right
def Av:=@PySem.isSubtype_type
def Aw:=@List.length_cons
def Ax:=@List.map_congr_left
def Ay:=@List.length_drop
def Az:=@List.mem_cons_self
def Ba:=@decide_eq_false
def Bb:=@PySem.W.mg_none_of
def Bc:=@Bool.and_eq_true
def Bd:=@List.range_succ
def Be:=@List.getElem?_set_self
def Bf:=@Nat.le_trans
def Bh:=@List.replicate_succ
def Bi:=@Array.getD_eq_getD_getElem?
def Bj:=@decide_eq_true_eq
def Bk:=@PySem.call_isinstance
def Bl:=@List.append_nil
def Bm:=@of_decide_eq_false
def Bn:=@Option.map_eq_some_iff
def Bo:=@List.length_range
def Bp:=@PySem.wpAny_holding
def Br:=@PyProof.Rows.slot_tuple_getitem
def Bs:=@List.length_replicate
def Bu:=@decide_eq_true
def Bv:=@List.mem_reverse
def Bw:=@Nat.lt_succ_of_lt
def Bx:=@List.mem_of_mem_drop
def By:=@List.getElem?_append_left
def Bz:=@List.headD_cons
def Ca:=@PySem.Heap.size_push
def Cb:=@List.idxOf_lt_length_iff
def Cc:=@List.take_succ_eq_append_getElem
def Cd:=@PySem.sizeLine_eq
def Ce:=@List.cons.injEq
def Cf:=@PySem.wpAny_callSpecial?_slot
def Cg:=@List.take_length
def Ci:=@List.flatten_cons
def Cj:=@PySem.wpAny_call_entry
def Cm:=@List.filter_append
def Cn:=@Nat.zero_le
def Co:=@List.getElem?_replicate
def Cp:=@List.mem_filter
def Cq:=@Int.emod_nonneg
def Cr:=@List.take_of_length_le
def Cs:=@List.nodup_range
def Ct:=@Bool.false_eq_true
def Cu:=@Array.getElem?_eq_getElem
def Cv:=@List.length_erase_of_mem
def Cw:=@List.Pairwise.imp_of_mem
def Cz:=@decide_eq_decide
def Dc:=@Int.emod_lt_of_pos
def Dd:=@List.length_pos_of_mem
def De:=@PySem.Heap.get?_update_self
def Df:=@List.perm_append_comm
def Dg:=@PySem.wpAny_newObj_type
def Dh:=@Nat.le_of_lt
def Di:=@Bool.eq_iff_iff
def Dj:=@List.take_succ
def Dk:=@PySem.Heap.get?_update_other
def Dl:=@List.length_set
def Dm:=@List.filterMap_map
def Dn:=@Nat.le_of_lt_succ
def Dq:=@List.map_nil
def Dr:=@Bool.or_eq_true
def Ds:=@List.pairwise_append
def Dt:=@List.length_pos_iff
def Du:=@Nat.lt_or_ge
def Dv:=@List.getElem_mem
abbrev Dy:=PySem.Value->PySem.Shared->Prop
abbrev Dz:=List (PySem.Addr×PySem.Obj)
open PySem.W (Frag)
def Aa0:=@List.mem_append
def Aa1:=@List.mem_cons
def Aa2:=@List.getElem?_eq_getElem
def Aa3:=@List.length_map
def Aa4:=@List.nodup_append
def Aa5:=@List.nodup_cons
def Aa6:=@PySem.Heap.get?_push_of_some
def Aa7:=@Nat.le_refl
def Aa8:=@List.mem_map
def Aa9:=@List.getElem?_map
def Ab0:=@List.getElem?_eq_some_iff
def Ab1:=@PySem.F.plainAttrs_list
def Ab2:=@List.size_toArray
def Ab3:=@PySem.Heap.lt_size
def Ab4:=@Option.some.inj
def Ab5:=@List.mem_range
def Ab6:=@List.cons_append
def Ab7:=@List.length_append
def Ab8:=@Nat.lt_of_lt_of_le
def Ab9:=@Nat.ne_of_lt
def Ac0:=@List.getD_eq_getElem?_getD
def Ac1:=@List.mem_append_right
def Ac2:=@List.not_mem_nil
def Ac3:=@PySem.Heap.get?_push_size
def Ac4:=@List.idxOf_lt_length_of_mem
def Ac5:=@List.eq_nil_or_concat
def Ac6:=@List.nodup_iff_pairwise_ne
def Ac7:=@List.map_cons
def Ac8:=@Int.toNat_natCast
def Ac9:=@List.all_eq_true
def Ad0:=@List.getElem?_set_ne
def Ad1:=@List.length_take
def Ad2:=@List.map_append
def Ad3:=@List.take_append_drop
def Ad4:=@List.mem_cons_of_mem
def Ad5:=@List.append_of_mem
def Ad6:=@List.getElem?_eq_none
def Ad7:=@List.append_assoc
def Ad8:=@List.mem_singleton
def Ad9:=@Nat.lt_irrefl
def Ae0:=@List.pairwise_map
def Ae1:=@List.length_reverse
def Ae2:=@List.map_map
namespace L2
open PySem PySem.Spec PyProof.Rows
abbrev Key:=Sum Int Str
def dL0:Key->Value->Bool
 | .inl k,v=>Value.isInt k v
 | .inr x,v=>Value.isStrOf x v
def eK2 (w:World):Key->Int
 | .inl k=>hashInt k
 | .inr x=>hashStr w x
theorem M5:∀{k:Key} {v:Value},dL0 k v=true->(∃i t,k=Sum.inl i/\v=Value.int i t)\/(∃x t,k=Sum.inr x/\v=Value.str x t)
 | .inl i,v,h=>by
  obtain⟨t,e⟩:=Value.isInt_shape (k:=i) (v:=v) h;exact .inl ⟨i,t,rfl,e⟩
 | .inr x,v,h=>by
  obtain⟨t,e⟩:=Value.isStrOf_shape (x:=x) (v:=v) h;exact .inr ⟨x,t,rfl,e⟩
theorem dT7 (a b:Int):decide ((Sum.inl a:Key)=Sum.inl b)=(a==b):=by
 by_cases e:a=b
 .subst e;simp
 .have h:¬(Sum.inl a:Key)=Sum.inl b:=λq=>e (Sum.inl.inj q)
  rw[Ba h];exact(beq_eq_false_iff_ne.mpr e).symm
theorem dR6 (a b:Str):decide ((Sum.inr a:Key)=Sum.inr b)=decide (a=b):=by
 by_cases e:a=b
 .subst e;simp
 .have h:¬(Sum.inr a:Key)=Sum.inr b:=λq=>e (Sum.inr.inj q)
  rw[Ba h,Ba e]
theorem dR4 (a:Int)(b:Str):decide ((Sum.inl a:Key)=Sum.inr b)=false:=Ba (λq=>nomatch q)
theorem dT0 (a:Str)(b:Int):decide ((Sum.inr a:Key)=Sum.inl b)=false:=Ba (λq=>nomatch q)
def cG1 (prog:Program)(w:World):PySem.KeyKind prog w Key where
 is:=dL0
 hash:=eK2 w
 inj:=λv a b ha hb=>by
  rcases M5 ha with⟨i,t,rfl,rfl⟩ | ⟨x,t,rfl,rfl⟩
  .rcases M5 hb with⟨j,u,rfl,e⟩ | ⟨y,u,rfl,e⟩
   .injection e with e1 _;rw[e1]
   .exact nomatch e
  .rcases M5 hb with⟨j,u,rfl,e⟩ | ⟨y,u,rfl,e⟩
   .exact nomatch e
   .injection e with e1 _;rw[e1]
 byValue:=λk v h=>by
  rcases M5 h with⟨i,t,rfl,rfl⟩ | ⟨x,t,rfl,rfl⟩ <;> rfl
 pyHash:=λhv h=>by
  rcases M5 hv with⟨i,t,rfl,rfl⟩ | ⟨x,t,rfl,rfl⟩
  .exact wpAny_pyHash_int h
  .exact wpAny_pyHash_str h
 eqBool:=λhu hv h=>by
  rcases M5 hu with⟨i,t,rfl,rfl⟩ | ⟨x,t,rfl,rfl⟩
  .rcases M5 hv with⟨j,u,rfl,rfl⟩ | ⟨y,u,rfl,rfl⟩
   .rw[dT7]at h;exact wpAny_eqBool_int h
   .rw[dR4]at h;exact SeqAt.EqAt.int_str i t y u _ _ _ _ h
  .rcases M5 hv with⟨j,u,rfl,rfl⟩ | ⟨y,u,rfl,rfl⟩
   .rw[dT0]at h;exact SeqAt.EqAt.str_int x t j u _ _ _ _ h
   .rw[dR6]at h;exact wpAny_eqBool_str h
 «strs» := λk x t v h=>by
  rcases M5 h with⟨i,u,rfl,e⟩ | ⟨y,u,rfl,e⟩
  .exact nomatch e
  .injection e with e1 _
   subst e1;cases v <;> rfl
inductive V where
 | non | bl (b:Bool) | int (i:Int) | str (x:Str) | byt (b:Array UInt8) | flt (b:UInt64) | ref (a:Addr) | ty (n:String)
 deriving DecidableEq
def RelV:V->Value->Prop
 | .non,u=>u=Value.none
 | .bl b,u=>u=Value.bool b
 | .int i,u=>∃t,u=Value.int i t
 | .str x,u=>∃t,u=Value.str x t
 | .byt b,u=>∃t,u=Value.bytes b t
 | .flt b,u=>∃t,u=Value.float b t
 | .ref a,u=>u=Value.ref a
 | .ty n,u=>u=Value.type n
abbrev Vals:List V->AF->Prop:=Paired RelV
theorem Vals.length {xs:List V}{us:AF}(r:Vals xs us):xs.length=us.length:=Paired.length r
theorem Vals.get:∀{xs:List V} {us:AF} {i:Nat} {x:V},Vals xs us->xs[i]? = some x->∃u,us[i]? = some u/\RelV x u
 | _,_,_,_,.nil,e=>by simp at e
 | _,_,0,_,.cons r _,e=>by simp at e;subst e;exact⟨_,rfl,r⟩
 | _,_,i+1,x,.cons _ t,e=>by
  obtain⟨u,h1,h2⟩:=Vals.get (i:=i) (x:=x) t (by simpa using e)
  exact⟨u,by simpa using h1,h2⟩
theorem Vals.set {x:V}{u:Value}(r:RelV x u):∀{xs:List V} {us:AF} (i:Nat),Vals xs us->Vals (xs.set i x) (us.set i u)
 | _,_,_,.nil=>.nil
 | _,_,0,.cons _ t=>.cons r t
 | _,_,i+1,.cons q t=>.cons q (Vals.set r i t)
theorem Vals.append:∀{xs ys:List V} {us ws:AF},Vals xs us->Vals ys ws->Vals (xs++ys) (us++ws)
 | _,_,_,_,.nil,s=>s
 | _,_,_,_,.cons r t,s=>.cons r (Vals.append t s)
theorem Vals.take:∀{xs:List V} {us:AF} (n:Nat),Vals xs us->Vals (xs.take n) (us.take n)
 | _,_,0,_=>.nil
 | _,_,_+1,.nil=>.nil
 | _,_,n+1,.cons r t=>.cons r (Vals.take n t)
theorem Vals.drop:∀{xs:List V} {us:AF} (n:Nat),Vals xs us->Vals (xs.drop n) (us.drop n)
 | _,_,0,r=>r
 | _,_,_+1,.nil=>.nil
 | _,_,n+1,.cons _ t=>Vals.drop n t
def RelO:Option V->Option Value->Prop
 | some v,some u=>RelV v u
 | none,none=>True
 | _,_=>False
def KV {κ:Type}:List (κ×V)->List (κ×Value)->Prop:=Paired λ(p:κ×V) (q:κ×Value)=>p.1=q.1/\RelV p.2 q.2
def kV:Key->V
 | .inl i=>.int i
 | .inr x=>.str x
inductive HO where
 /-- a list -/
 | lst (xs:List V)
 /-- a tuple (never changes) -/
 | tup (xs:List V)
 /-- a dict whose keys are ints and texts;one whose keys are tuples of ints and texts (the empty one is both) -/
 | dK (kvs:List (Key×V)) | dT (kvs:List (List Key×V))
 /-- a set of ints: its members,its size -/
 | set (S:Int->Bool) (n:Nat)
 /-- an instance of the class at C,its dict at dx,its attributes -/
 | ins (C dx:Addr) (fs:List (Str×V))
 /-- the dict of the instance at x -/
 | own (x:Addr)
 /-- the dict of an exception -/
 | xd (fs:List (Str×V))
 /-- a bound method,f of x -/
 | met (f x:Addr)
 /-- a range object lo,lo+1,.. below hi -/
 | rng (lo hi:Int)
 /-- a thing that is known to the object (the script;a dict while a loop walks it): read,never written while it is so -/
 | frz (o:Obj) (u:HO)
 /-- a code object's table -/
 | tbl (ps:AH)
 /-- any other thing,by what is true of its one object (a def of one's own: SetO a S n:=HO.ext λh=>..) -/
 | ext (φ:Heap->Prop)
abbrev Hp:=Addr->Option HO
def upd (H:Hp)(a:Addr)(o:HO):Hp:=λb=>if b=a then some o else H b
theorem B3 {H:Hp}{a:Addr}{o:HO}:upd H a o a=some o:=by unfold upd;rw[Ae rfl]
theorem A8 {H:Hp}{a b:Addr}{o:HO}(h:b≠a):upd H a o b=H b:=by unfold upd;rw[Ac h]
theorem K5 {H:Hp}{a b:Addr}{o:HO}(h:H a=some o)(h':H b=none):a≠b:=by
 intro e;subst e;rw[h]at h';cases h'
def Tup0 (h:Heap)(a:Addr)(items:AH):Prop:=∃o,h.get? a=some o/\o.cls=.type "tuple" /\ (∃n,o.data=.seq items n)/\o.dict=none
theorem Tup0.tup {h:Heap}{a:Addr}{items:AH}(p:Tup0 h a items):IsTup h a items:=p.imp λ_ q=>⟨q.1,q.2.1,q.2.2.1⟩
theorem Tup0.nw (h:Heap)(items:AH)(n:Nat):Tup0 (h.push {cls:=.type "tuple",data:=.seq items n}) h.objs.size items:=⟨_,Ac3 _ rfl,rfl,⟨n,rfl⟩,rfl⟩
section
variable (P:Program)(w:World)
def ObjOk (H:Hp)(h:Heap)(a:Addr):HO->Prop
 | .lst xs=>xs.length<=sizeLine/\∃(its:AF) (n:Nat),Vals xs its/\h.get? a=some {cls:=.type "list",data:=.seq its.toArray n}
 | .tup xs=>xs.length<=sizeLine/\∃its:AF,Vals xs its/\Tup0 h a its.toArray
 | .dK kvs=>kvs.length<=sizeLine/\(a==sysModules)=false/\∃vs,KV kvs vs/\h.DictOf (cG1 P w) a vs
 | .dT kvs=>kvs.length<=sizeLine/\(a==sysModules)=false/\∃xs:List (List Key×Addr×Value),
   Paired (λ(p:List Key×V) (q:List Key×Addr×Value)=>p.1=q.1/\H q.2.1=some (.tup (p.1.map kV))/\RelV p.2 q.2.2) kvs xs /\
   ∃o es ep,h.get? a=some o/\o.ExactDict/\o.data=.dict es ep/\es.toList=xs.map (entryOfKey (tupleKind (cG1 P w)))/\(xs.map (·.1)).Nodup
 | .set S n=>h.SetOf (intKind P w) a S n
 | .ins C dx fs=>H dx=some (.own a)/\fs.length<=1000/\dx≠a/\h.get? a=some (PySem.W.instObj C dx) /\
   ∃mA,h.Ns1 dx mA/\(∀f,RelO (fs.lookup f) (mA f))/\PySem.Within mA (fs.map (·.1))
 | .own _=>∃o,h.get? a=some o
 | .xd fs=>∃mA,h.Ns1 a mA/\∀f,RelO (fs.lookup f) (mA f)
 | .rng lo hi=>∃t u v,h.get? a=some {cls:=.type "range",data:=.fields #[.int lo t,.int hi u,.int 1 v]}
 | .frz o u=>h.get? a=some o/\ObjOk H h a u
 | .tbl ps=>h.get? a=some {cls:=.none,data:=.fields ps}
 | .met f x=>h.get? a=some (PySem.W.methodObj (.ref f) (.ref x))
 | .ext φ => φ h/\(∃o,h.get? a=some o)/\∀h1 h2:Heap,φ h1->(∀o,h1.get? a=some o->h2.get? a=some o)->φ h2
def HOk (H:Hp)(h:Heap):Prop:=∀a o,H a=some o->ObjOk P w H h a o
end
section
variable {P:Program}{w:World}{H H':Hp}{h h':Heap}{a:Addr}{o:HO}
theorem ObjOk.lt (x:ObjOk P w H h a o):a<h.objs.size:=by
 cases o with
 | lst xs=>obtain⟨_,_,_,_,e⟩:=x;exact Ab3 e
 | tup xs=>obtain⟨_,_,_,p⟩:=x;exact p.tup.lt
 | dK kvs=>obtain⟨_,_,_,_,o,_,_,e,_⟩:=x;exact Ab3 e
 | dT kvs=>obtain⟨_,_,_,_,o,_,_,e,_⟩:=x;exact Ab3 e
 | set S n=>obtain⟨o,_,_,_,e,_⟩:=x;exact Ab3 e
 | ins C dx fs=>obtain⟨_,_,_,e,_⟩:=x;exact Ab3 e
 | own y=>obtain⟨_,e⟩:=x;exact Ab3 e
 | xd fs=>obtain⟨_,⟨_,_,_,e,_⟩,_⟩:=x;exact Ab3 e
 | rng lo hi=>obtain⟨_,_,_,e⟩:=x;exact Ab3 e
 | frz z u=>obtain⟨e,_⟩:=x;exact Ab3 e
 | tbl ps=>exact Ab3 (show h.get? a=some _ from x)
 | met f y=>exact Ab3 (show h.get? a=some _ from x)
 | ext φ=>obtain⟨_,⟨_,e⟩,_⟩:=x;exact Ab3 e
theorem Paired.mapP {α β:Type}{F G:α->β->Prop}:∀{l₁:List α} {l₂:List β},Paired F l₁ l₂->(∀a b,F a b->G a b)->Paired G l₁ l₂
 | _,_,.nil,_=>.nil
 | _,_,.cons r t,f=>.cons (f _ _ r) (Paired.mapP t f)
theorem ObjOk.stay (x:ObjOk P w H h a o)(k:∀b u,(b=a\/H b=some (.own a))->h.get? b=some u->h'.get? b=some u)
  (ho:∀b,H b=some (.own a)->H' b=some (.own a)) (M:∀b xs,H b=some (.tup xs)->H' b=some (.tup xs)):ObjOk P w H' h' a o:=by
 induction o with
 | lst xs=>obtain⟨z,its,n,r,e⟩:=x;exact⟨z,its,n,r,k _ _ (.inl rfl) e⟩
 | tup xs=>obtain⟨z,its,r,g,e,c⟩:=x;exact⟨z,its,r,g,k _ _ (.inl rfl) e,c⟩
 | dK kvs=>obtain⟨z,y,vs,r,g,m,s,e,c⟩:=x;exact⟨z,y,vs,r,g,m,s,k _ _ (.inl rfl) e,c⟩
 | dT kvs=>
  obtain⟨z,y,xs,r,g,m,s,e,c⟩:=x;exact⟨z,y,xs,Paired.mapP r λp q z=>⟨z.1,M _ _ z.2.1,z.2.2⟩,g,m,s,k _ _ (.inl rfl) e,c⟩
 | set S n=>obtain⟨g,m,s,t,e,c⟩:=x;exact⟨g,m,s,t,k _ _ (.inl rfl) e,c⟩
 | ins C dx fs=>
  obtain⟨d,z,ne,e,Y,⟨X,m,s,J,c⟩,r⟩:=x;exact⟨ho _ d,z,ne,k _ _ (.inl rfl) e,Y,⟨X,m,s,k _ _ (.inr d) J,c⟩,r⟩
 | own y=>obtain⟨g,e⟩:=x;exact⟨g,k _ _ (.inl rfl) e⟩
 | xd fs=>obtain⟨Y,⟨X,m,s,e,c⟩,r⟩:=x;exact⟨Y,⟨X,m,s,k _ _ (.inl rfl) e,c⟩,r⟩
 | rng lo hi=>obtain⟨t,u,v,e⟩:=x;exact⟨t,u,v,k _ _ (.inl rfl) e⟩
 | frz g u N=>obtain⟨e,q⟩:=x;exact⟨k _ _ (.inl rfl) e,N q⟩
 | tbl ps=>
  have e:h.get? a=some {cls:=.none,data:=.fields ps}:=x
  show h'.get? a=some {cls:=.none,data:=.fields ps}
  exact k a _ (.inl rfl) e
 | met f y=>
  have e:h.get? a=some (PySem.W.methodObj (.ref f) (.ref y)):=x
  show h'.get? a=some (PySem.W.methodObj (.ref f) (.ref y))
  exact k a _ (.inl rfl) e
 | ext φ=>obtain⟨p,⟨o,e⟩,U⟩:=x;exact⟨U _ _ p λo q=>k _ _ (.inl rfl) q,⟨o,k _ _ (.inl rfl) e⟩,U⟩
theorem HOk.lt (x:HOk P w H h)(e:H a=some o):a<h.objs.size:=(x a o e).lt
theorem HOk.fresh (x:HOk P w H h)(e:h.objs.size<=a):H a=none:=by
 cases q:H a with
 | none=>rfl
 | some u=>exact absurd (Ab8 (x.lt q) e) (Ad9 _)
theorem HOk.kept (x:HOk P w H h)(k:∀b u,h.get? b=some u->h'.get? b=some u):HOk P w H h':=λa o e=>
 (x a o e).stay (λb u _ q=>k b u q) (λ_ q=>q) λ_ _ q=>q
theorem HOk.laid (x:HOk P w H h)(k:∀b u,h.get? b=some u->h'.get? b=some u)(hp:h.objs.size<=a)(y:ObjOk P w (upd H a o) h' a o):HOk P w (upd H a o) h':=λb u e=>by
 have r:=x.fresh hp
 by_cases z:b=a
 .subst z;rw[B3]at e;cases e;exact y
 .rw[A8 z]at e;exact(x b u e).stay (λc v _ q=>k c v q) (λc q=>by rw[A8 (K5 q r)];exact q) λc xs q=>by rw[A8 (K5 q r)];exact q
end
def Rd (H:Hp)(a:Addr)(u:HO):Prop:=H a=some u\/∃o,H a=some (.frz o u)
theorem Rd.ok {P:Program}{w:World}{H:Hp}{h:Heap}{a:Addr}{u:HO}(r:Rd H a u)(x:HOk P w H h):ObjOk P w H h a u:=by
 rcases r with r | ⟨o,r⟩
 .exact x a u r
 .obtain⟨_,q⟩:=x a _ r;exact q
def Mut:Option HO->Prop
 | some (.lst _)=>True
 | some (.dK _)=>True
 | some (.dT _)=>True
 | some (.set _ _)=>True
 | some (.ins _ _ _)=>True
 | some (.ext _)=>True
 | _=>False
section
variable {P:Program}{w:World}{H:Hp}{h h':Heap}{x e:Addr}{o':HO}
theorem HOk.write (ok:HOk P w H h)(X:Mut (H x))(M:e=x\/H e=some (.own x))(k:∀b u,b≠e->h.get? b=some u->h'.get? b=some u)(U:∃u,h'.get? e=some u)
  (J:ObjOk P w (upd H x o') h' x o'):HOk P w (upd H x o') h':=λb u q=>by
 have s:∀c y,H c=some (.own y)->c≠x:=λc y r z=>by subst z;rw[r]at X;exact X
 have m:∀c xs,H c=some (.tup xs)->c≠x:=λc xs r z=>by subst z;rw[r]at X;exact X
 by_cases Y:b=x
 .subst Y;rw[B3]at q;cases q;exact J
 .rw[A8 Y]at q;by_cases g:b=e
  .have N:H b=some (.own x):=by
    rcases M with z | z
    .exact absurd (g.trans z) Y
    .rw[g];exact z
   rw[q]at N;cases N;obtain⟨v,R⟩:=U;exact⟨v,by rw[g];exact R⟩
  .refine(ok b u q).stay (λc v hc r=>k c v ?_ r) (λc r=>by rw[A8 (s c b r)];exact r) λc xs r=>by rw[A8 (m c xs r)];exact r
   rcases hc with rfl | hc
   .exact g
   .rintro rfl;rcases M with z | z
    .exact s c b hc z
    .rw[hc]at z;cases z;exact Y rfl
end
structure Un (fs ex:AK)(H H':Hp)(h h':Heap):Prop where
 keep:∀b o,h.get? b=some o->H b=none->b∉fs->b∉ex->h'.get? b=some o
 slot:∀b o,h.get? b=some o->H b=none->b∈fs->b∉ex->∃sl,h'.get? b=some {o with slots:=sl}
 free:∀b o,h.get? b=some o->H b=none->b∉ex->H' b=none
 there:∀b o,h.get? b=some o->b∉ex->∃o',h'.get? b=some o'
 tups:∀b xs,H b=some (.tup xs)->H' b=some (.tup xs)
 frzs:∀b o u,H b=some (.frz o u)->H' b=some (.frz o u)
 tbls:∀b ps,H b=some (.tbl ps)->∃more,H' b=some (.tbl (ps++more))
section
variable {fs fs' ex ex':AK}{H H1 H2:Hp}{h h1 h2 h':Heap}{a x e:Addr}{o:HO}
theorem Un.any (u:Un fs ex H H1 h h1){b:Addr}{ob:Obj}(q:h.get? b=some ob)(n:H b=none)(z:b∉ex):∃sl,h1.get? b=some {ob with slots:=sl}:=by
 by_cases y:b∈fs
 .exact u.slot b ob q n y z
 .exact⟨ob.slots,u.keep b ob q n y z⟩
theorem Un.kept (k:∀b u,h.get? b=some u->h'.get? b=some u):Un fs ex H H h h':=
 ⟨λb y q _ _ _=>k b y q,λb y q _ _ _=>⟨y.slots,k b y q⟩,λ_ _ _ n _=>n,λb y q _=>⟨y,k b y q⟩,λ_ _ q=>q,λ_ _ _ q=>q,λ_ ps q=>⟨#[],by rw[q];simp⟩⟩
theorem Un.refl:Un fs ex H H h h:=Un.kept λ_ _ q=>q
theorem Un.laid (k:∀b u,h.get? b=some u->h'.get? b=some u)(hp:h.objs.size<=a)(y:H a=none):Un fs ex H (upd H a o) h h' where
 keep:=λb u q _ _ _=>k b u q
 slot:=λb u q _ _ _=>⟨u.slots,k b u q⟩
 free:=λb u q n _=>by rw[A8 (Ab9 (Ab8 (Ab3 q) hp))];exact n
 there:=λb u q _=>⟨u,k b u q⟩
 tups:=λb xs q=>by rw[A8 (K5 q y)];exact q
 frzs:=λb u xs q=>by rw[A8 (K5 q y)];exact q
 tbls:=λb ps q=>⟨#[],by rw[A8 (K5 q y),q];simp⟩
theorem Un.write (g:Mut (H x))(U:e=x\/H e=some (.own x))(k:∀b u,b≠e->h.get? b=some u->h'.get? b=some u)(s:∃u,h'.get? e=some u):Un fs ex H (upd H x o) h h':=by
 have X:∀b,H b=none->b≠x:=λb n z=>by subst z;rw[n]at g;exact g
 have Y:∀b,H b=none->b≠e:=λb n z=>by
  subst z;rcases U with r | r
  .exact X b n r
  .rw[n]at r;cases r
 have m:∀b u,H b=some u->¬Mut (some u)->b≠x:=λb u q J z=>by subst z;rw[q]at g;exact J g
 refine⟨λb u q n _ _=>k b u (Y b n) q,λb u q n _ _=>⟨u.slots,k b u (Y b n) q⟩,λb u q n _=>by rw[A8 (X b n)];exact n,λb u q _=>?_,
  λb xs q=>by rw[A8 (m b _ q λz=>z)];exact q,λb u xs q=>by rw[A8 (m b _ q λz=>z)];exact q,λb ps q=>⟨#[],by rw[A8 (m b _ q λz=>z),q];simp⟩⟩
 by_cases y:b=e
 .subst y;exact s
 .exact⟨u,k b u y q⟩
end
def trk (h:Heap)(H:Hp):AK:=(List.range h.objs.size).filter λa=>(H a).isSome
def bF7 (h:Heap)(H:Hp):Heap:=PySem.W.hideAll h (trk h H)
theorem cI9 (h:Heap)(H:Hp):(bF7 h H).objs.size=h.objs.size:=PySem.W.hideAll_size _ _
theorem cY2 {h:Heap}{H:Hp}{b:Addr}{o:Obj}(e:h.get? b=some o)(n:H b=none):(bF7 h H).get? b=some o:=
 PySem.W.hideAll_get _ e λy=>by
  have q:(H b).isSome=true:=(Cp.mp y).2
  rw[n]at q;simp at q
theorem dE7 {h:Heap}{H:Hp}{b:Addr}{o:Obj}(e:(bF7 h H).get? b=some o):h.get? b=some o/\H b=none:=by
 have e':h.get? b=some o:=PySem.W.of_hideAll (trk h H) e
 refine⟨e',?_⟩;cases q:H b with
 | none=>rfl
 | some x=>
  have y:b∈trk h H:=Cp.mpr ⟨Ab5.mpr (Ab3 e'),by simp[q]⟩
  have z:(bF7 h H).get? b=none:=PySem.W.hideAll_none (trk h H) y
  rw[z]at e;cases e
structure Mod (K:Frag)(mg:Str->Option Value)(base:Heap):Prop where
 kin:K.In base
 glob:base.Ns mainGlobals mg
 blt:∃mb,base.Ns builtinsNs mb/\∀x:Str,x≠"__name__" -> mb x=bootBuiltins x
 nolimit:base.NoLimit
structure Cx where
 prog:Program
 w:World
 K:Frag
 mg:Str->Option Value
 base:Heap
 A:Around
 N:AG
 s₀:Shared
 H₀:Hp
 env:Env
 outer:List Env
 stack:List Env
 ex:AK
 fn:Str->Bool
 calm:Bool
 pn:List (Addr×Obj)
 xe:Value->Shared->Prop
def frs (l:List Env):AK:=l.filterMap (·.frame)
abbrev Cx.fs (X:Cx):AK:=frs X.outer
def Vis (sc:Scope)(x:Str):Prop:=sc.names.lookup x=some .local\/sc.names.lookup x=some .cell\/sc.names.lookup x=some .free
def Loc (sc:Scope)(x:Str):Prop:=sc.names.lookup x=some .local\/sc.names.lookup x=some .cell
def eJ5 (env:Env)(h:Heap)(m:Str->Option Value)(x:Str)(u:Value):Prop:=
 (env.kindOf x=some .local/\m x=some u)\/((env.kindOf x=some .cell\/env.kindOf x=some .free)/\∃c,env.cells.lookup x=some c/\h.IsCell c (some u))
structure Cx.Ok (X:Cx):Prop where
 mod:Mod X.K X.mg X.base
 kind:X.env.scope.kind=.function
 glob:X.env.globals=mainGlobals
 blt:X.env.builtins=builtinsNs
 above:X.s₀.heap.objs.size<=X.env.locals
 inj:∀x y c,X.env.cells.lookup x=some c->X.env.cells.lookup y=some c->x=y
 has:∀x,(X.env.kindOf x=some .cell\/X.env.kindOf x=some .free)->∃c,X.env.cells.lookup x=some c
 cab:∀x c,X.fn x=true->X.env.cells.lookup x=some c->X.s₀.heap.objs.size<=c
 hd:X.calm=true->X.A.handled=none
 frames:X.A.frames=some X.stack
 stk:X.stack=X.outer\/(X.stack=X.env::X.outer/\X.env.frame=some X.env.locals)
 exf:∀b∈X.ex,b≠X.env.locals/\∀x c,X.env.cells.lookup x=some c->c≠b
 bs:∀b o,X.base.get? b=some o->X.s₀.heap.get? b=some o/\X.H₀ b=none
 bsz:X.base.objs.size<=X.s₀.heap.objs.size
 noex:∀b o,X.base.get? b=some o->b∉X.ex
 exfs:∀b∈X.ex,b∉X.fs
 funs:X.s₀.heap.FunFrames X.base X.outer
 frf:∀b∈X.fs,X.H₀ b=none
structure Inv (X:Cx)(aA:Dz)(σ:List (Option V))(H:Hp)(s:Shared):Prop where
 ok:X.Ok
 os:s.os=X.s₀.os
 bare:AllBare s.gens
 base:Un X.fs X.ex X.H₀ H X.s₀.heap s.heap
 loc:∃m,s.heap.Ns X.env.locals m/\∀(i:Nat) (x:Str) (v:V),X.N[i]? = some x->σ[i]? = some (some v)->Vis X.env.scope x->∃u,RelV v u/\eJ5 X.env s.heap m x u
 cell:∀x c,X.env.cells.lookup x=some c->∃v,s.heap.IsCell c v
 free:H X.env.locals=none
 freeC:∀x c,X.env.cells.lookup x=some c->H c=none
 pin:∀p∈X.pn++aA,s.heap.get? p.1=some p.2/\H p.1=none/\p.1≠X.env.locals/\p.1∉X.fs/\∀v,p.2.data≠.cell v
 hok:HOk X.prog X.w H s.heap
 len:σ.length=X.N.length
section
variable {X:Cx}{aA:Dz}{σ:List (Option V)}{H H':Hp}{s:Shared}{h':Heap}
theorem Cx.Ok.nofr (ok:X.Ok){b:Addr}{o:Obj}(e:X.base.get? b=some o):b∉X.fs:=λy=>by
 have:=(ok.funs.mem y).1
 rw[e]at this;cases this
theorem Inv.bs (I:Inv X aA σ H s):∀b o,X.base.get? b=some o->s.heap.get? b=some o/\H b=none:=λb o e=>
 ⟨I.base.keep b o (I.ok.bs b o e).1 (I.ok.bs b o e).2 (I.ok.nofr e) (I.ok.noex b o e),I.base.free b o (I.ok.bs b o e).1 (I.ok.bs b o e).2 (I.ok.noex b o e)⟩
theorem Inv.bk (I:Inv X aA σ H s):∀b o,X.base.get? b=some o->s.heap.get? b=some o:=λb o e=>(I.bs b o e).1
theorem Inv.mod (I:Inv X aA σ H s):Mod X.K X.mg X.base:=I.ok.mod
theorem Inv.kIn (I:Inv X aA σ H s):X.K.In s.heap:=I.ok.mod.kin.keeps I.bk
theorem Inv.lt (I:Inv X aA σ H s):X.env.locals<s.heap.objs.size:=let ⟨_,e,_⟩:=I.loc;e.lt
theorem Inv.sz (I:Inv X aA σ H s):X.s₀.heap.objs.size<=s.heap.objs.size:=Bf I.ok.above (Dh I.lt)
theorem Inv.nofs (I:Inv X aA σ H s){a:Addr}(h:s.heap.objs.size<=a):a∉X.fs:=λe=>by
 obtain⟨_,o,ho,_⟩:=I.ok.funs.mem e;exact absurd (Ab8 (Ab3 ho) (Bf I.sz h)) (Ad9 _)
theorem Inv.cne (I:Inv X aA σ H s):∀x c,X.env.cells.lookup x=some c->c≠X.env.locals:=λx c e z=>by
 obtain⟨v,o,ho,g⟩:=I.cell x c e;obtain⟨m,⟨U,Y,k,r,y,_⟩,_⟩:=I.loc;rw[z,r]at ho;cases ho;rw[y]at g;cases g
theorem Inv.funs (I:Inv X aA σ H s):s.heap.FunFrames X.base X.outer:=by
 have all:∀(l:List Env),(∀b∈frs l,b∈X.fs)->X.s₀.heap.FunFrames X.base l->s.heap.FunFrames X.base l:=by
  intro l;induction l with
  | nil=>intro _ _;trivial
  | cons Y r Q=>
   intro m M;obtain⟨J,⟨L,o,k,N,ho,U⟩,R⟩:=M;have y:L∈X.fs:=m L (by unfold frs;rw[Ak,k];exact Az)
   obtain⟨D,e⟩:=I.base.slot L o ho (I.ok.frf L y) y λz=>I.ok.exfs L z y
   exact⟨J,⟨L,_,k,N,e,U⟩,Q (λb g=>m b (by unfold frs;rw[Ak,k];exact Ad4 _ g)) R⟩
 exact all X.outer (λ_ g=>g) I.ok.funs
theorem Inv.stack (I:Inv X aA σ H s):s.heap.FunFrames X.base X.stack:=by
 rcases I.ok.stk with e | ⟨e,y⟩
 .rw[e];exact I.funs
 .rw[e];obtain⟨m,z,_⟩:=I.loc;refine .cons (by rw[I.ok.kind];decide) y z ?_ I.funs
  exact Heap.get?_none_of_le (Bf I.ok.bsz I.ok.above)
theorem Inv.stkSub (I:Inv X aA σ H s):∀b∈frs X.stack,b∈X.env.locals::X.fs:=λb y=>by
 rcases I.ok.stk with e | ⟨e,z⟩
 .rw[e]at y;exact Ad4 _ y
 .rw[e]at y;unfold frs at y;rw[Ak,z]at y;exact y
theorem Inv.stkFree (I:Inv X aA σ H s):∀b∈frs X.stack,H b=none:=λb hb=>by
 rcases Aa1.mp (I.stkSub b hb) with e | hb
 .rw[e];exact I.free
 .obtain⟨_,o,ho,_⟩:=I.ok.funs.mem hb;exact I.base.free b o ho (I.ok.frf b hb) λz=>I.ok.exfs b z hb
theorem Inv.step {g':Array GenState}{t':Nat}{d':Drawn}{ch:AK}(I:Inv X aA σ H s)
  (Y:∀b∈ch,(b∈X.ex\/X.s₀.heap.objs.size<=b)/\b≠X.env.locals/\(∀x c,X.env.cells.lookup x=some c->c≠b)/\∀p∈X.pn++aA,p.1≠b)
  (keep:∀b o,b≠X.env.locals->b∉X.fs->b∉ch->s.heap.get? b=some o->H b=none->h'.get? b=some o)
  (slot:∀b o,b≠X.env.locals->b∈X.fs->b∉ch->s.heap.get? b=some o->H b=none->∃sl,h'.get? b=some {o with slots:=sl}) (free:∀b o,b∉ch->s.heap.get? b=some o->H b=none->H' b=none)
  (R:∀b o,b∉ch->s.heap.get? b=some o->∃o',h'.get? b=some o')
  (P:∀b xs,H b=some (.tup xs)->H' b=some (.tup xs)) (D:∀b o u,H b=some (.frz o u)->H' b=some (.frz o u)) (B:∀b ps,H b=some (.tbl ps)->∃more,H' b=some (.tbl (ps++more)))
  (ns:∀m,s.heap.Ns X.env.locals m->h'.Ns X.env.locals m) (hok:HOk X.prog X.w H' h') (hg:AllBare g') :
  Inv X aA σ H' {s with heap:=h',gens:=g',drawn:=d',toks:=t'}:=by
 have F:∀b o,X.s₀.heap.get? b=some o->b≠X.env.locals:=λb o e=>Ab9 (Ab8 (Ab3 e) I.ok.above)
 have M:∀b o,X.s₀.heap.get? b=some o->b∉X.ex->b∉ch:=λb o e y N=>by
  rcases (Y b N).1 with z | z
  .exact y z
  .exact absurd (Ab8 (Ab3 e) z) (Ad9 _)
 have g:∀x c,X.env.cells.lookup x=some c->∀v,s.heap.IsCell c v->h'.IsCell c v:=λx c e v ⟨o,ho,hd⟩=>by
  have U:c∉ch:=λz=>(Y c z).2.2.1 x c e rfl
  by_cases hc:c∈X.fs
  .obtain⟨sl,q⟩:=slot c o (I.cne x c e) hc U ho (I.freeC x c e);exact⟨_,q,hd⟩
  .exact⟨o,keep c o (I.cne x c e) hc U ho (I.freeC x c e),hd⟩
 refine⟨I.ok,I.os,hg,⟨λb o e n N y=>?_,λb o e n N y=>?_,λb o e n y=>?_,λb o e y=>?_,λb xs e=>P b xs (I.base.tups b xs e),λb o xs e=>D b o xs (I.base.frzs b o xs e),λb ps e=>?_⟩,?_,λx c e=>?_,?_,λx c e=>?_,λp hp=>?_,hok,I.len⟩
 .exact keep b o (F b o e) N (M b o e y) (I.base.keep b o e n N y) (I.base.free b o e n y)
 .obtain⟨sl,J⟩:=I.base.slot b o e n N y;obtain⟨sl',Q⟩:=slot b _ (F b o e) N (M b o e y) J (I.base.free b o e n y);exact⟨sl',Q⟩
 .obtain⟨o',J⟩:=I.base.there b o e y;exact free b o' (M b o e y) J (I.base.free b o e n y)
 .obtain⟨o',J⟩:=I.base.there b o e y;exact R b o' (M b o e y) J
 .obtain⟨m1,J⟩:=I.base.tbls b ps e;obtain⟨m2,Q⟩:=B b _ J;exact⟨m1++m2,by rw[Q,Array.append_assoc]⟩
 .obtain⟨m,hn,hl⟩:=I.loc;refine⟨m,ns m hn,λi x v J Q e3=>?_⟩
  obtain⟨u,r,l⟩:=hl i x v J Q e3;refine⟨u,r,?_⟩;rcases l with l | ⟨k,c,e,z⟩
  .exact .inl l
  .exact .inr ⟨k,c,e,g x c e _ z⟩
 .obtain⟨v,z⟩:=I.cell x c e;exact⟨v,g x c e v z⟩
 .obtain⟨m,⟨o,_,_,ho,_⟩,_⟩:=I.loc;exact free _ o (λz=>(Y _ z).2.1 rfl) ho I.free
 .obtain⟨v,o,ho,hd⟩:=I.cell x c e;exact free c o (λz=>(Y c z).2.2.1 x c e rfl) ho (I.freeC x c e)
 .obtain⟨e,n,ne,nf,d⟩:=I.pin p hp;have U:p.1∉ch:=λz=>(Y p.1 z).2.2.2 p hp rfl
  exact⟨keep p.1 p.2 ne nf U e n,free p.1 p.2 U e n,ne,nf,d⟩
theorem Inv.un {t':Nat}(I:Inv X aA σ H s)(u:Un X.fs [] H H' s.heap h')(U:HOk X.prog X.w H' h'):Inv X aA σ H' {s with heap:=h',toks:=t'}:=by
 obtain⟨m,⟨o,Q,R,ho,r⟩,_⟩:=id I.loc;obtain⟨B,J⟩:=u.any ho I.free (by simp)
 exact I.step (g':=s.gens) (d':=s.drawn) (ch:=[]) (λ_ z=>nomatch z) (λb o _ Y _ e n=>u.keep b o e n Y (by simp)) (λb o _ Y _ e n=>u.slot b o e n Y (by simp)) (λb o _ e n=>u.free b o e n (by simp)) (λb o _ e=>u.there b o e (by simp)) u.tups u.frzs u.tbls (λD M=>by
  obtain⟨F,k,g,y,N⟩:=M;rw[ho]at y;cases y;exact⟨_,k,g,J,N⟩) U I.bare
theorem Inv.call {g':Array GenState}{t':Nat}{d':Drawn}{ch:AK}(I:Inv X aA σ H s)(u:Un (frs X.stack) ch H H' s.heap h')(M:HOk X.prog X.w H' h')(hg:AllBare g')
  (g:∀b∈ch,(b∈X.ex\/X.s₀.heap.objs.size<=b)/\b≠X.env.locals/\(∀x c,X.env.cells.lookup x=some c->c≠b)/\∀p∈X.pn++aA,p.1≠b) :
  Inv X aA σ H' {s with heap:=h',gens:=g',drawn:=d',toks:=t'}:=by
 obtain⟨m,⟨o,F,D,ho,r⟩,_⟩:=id I.loc;obtain⟨sl,J⟩:=u.any ho I.free λz=>(g _ z).2.1 rfl
 exact I.step (ch:=ch) g (λb o J N y e n=>u.keep b o e n (λz=>(Aa1.mp (I.stkSub b z)).elim J N) y) (λb o _ _ y e n=>u.any e n y) (λb o y e n=>u.free b o e n y) (λb o y e=>u.there b o e y) u.tups u.frzs u.tbls (λB R=>by
  obtain⟨P,U,Y,k,Q⟩:=R;rw[ho]at k;cases k;exact⟨_,U,Y,J,Q⟩) M hg
theorem Inv.turned {t':Nat}{it:Addr}(I:Inv X aA σ H s)(k:∀b o,b≠it->s.heap.get? b=some o->h'.get? b=some o)(D:H it=none)(Y:it≠X.env.locals)
  (h1:it∈X.ex\/X.s₀.heap.objs.size<=it) (M:∀x c,X.env.cells.lookup x=some c->c≠it) (N:∀p∈X.pn++aA,p.1≠it):Inv X aA σ H {s with heap:=h',toks:=t'}:=by
 have g:∀b u,H b=some u->b≠it:=λb u e z=>by rw[z,D]at e;cases e
 refine I.step (g':=s.gens) (d':=s.drawn) (ch:=[it]) (λb R=>?_) (λb o _ _ y e _=>k b o (λz=>y (by simp[z])) e) (λb o _ _ y e _=>⟨o.slots,k b o (λz=>y (by simp[z])) e⟩) (λ_ _ _ _ n=>n)
  (λb o y e=>⟨o,k b o (λz=>y (by simp[z])) e⟩) (λ_ _ e=>e) (λ_ _ _ e=>e) (λb ps e=>⟨#[],by rw[e];simp⟩) (λm Q=>?_) (λb u e=>?_) I.bare
 .have e:b=it:=by simpa using R
  subst e;exact⟨h1,Y,M,N⟩
 .obtain⟨o,J,U,ho,r⟩:=Q;exact⟨o,J,U,k _ o (Ne.symm Y) ho,r⟩
 .refine(I.hok b u e).stay (λc v y q=>k c v ?_ q) (λ_ q=>q) λ_ _ q=>q
  rcases y with z | z
  .rw[z];exact g b u e
  .exact g c _ z
theorem Inv.tok (I:Inv X aA σ H s)(t:Nat):Inv X aA σ H {s with toks:=t}:=I.un (h':=s.heap) (t':=t) Un.refl I.hok
theorem Inv.kept {t':Nat}(I:Inv X aA σ H s)(k:∀b u,s.heap.get? b=some u->h'.get? b=some u):Inv X aA σ H {s with heap:=h',toks:=t'}:=I.un (Un.kept k) (I.hok.kept k)
theorem Inv.laid {a:Addr}{o:HO}{t':Nat}(I:Inv X aA σ H s)(k:∀b u,s.heap.get? b=some u->h'.get? b=some u)(hp:s.heap.objs.size<=a)(e:ObjOk X.prog X.w (upd H a o) h' a o) :
  Inv X aA σ (upd H a o) {s with heap:=h',toks:=t'}:=I.un (Un.laid k hp (I.hok.fresh hp)) (I.hok.laid k hp e)
theorem Inv.write {x e:Addr}{o:HO}{t':Nat}(I:Inv X aA σ H s)(g:Mut (H x))(r:e=x\/H e=some (.own x))(k:∀b u,b≠e->s.heap.get? b=some u->h'.get? b=some u)(y:∃u,h'.get? e=some u)
  (z:ObjOk X.prog X.w (upd H x o) h' x o):Inv X aA σ (upd H x o) {s with heap:=h',toks:=t'}:=I.un (Un.write g r k y) (I.hok.write g r k y z)
theorem Inv.weak {σ':List (Option V)}(I:Inv X aA σ H s)(g:σ'.length=σ.length)(w:∀(i:Nat) v,σ'[i]? = some (some v)->σ[i]? = some (some v)):Inv X aA σ' H s:=
 ⟨I.ok,I.os,I.bare,I.base,let ⟨m,k,e⟩:=I.loc;⟨m,k,λi x v y z r=>e i x v y (w i v z) r⟩,I.cell,I.free,I.freeC,I.pin,I.hok,g.trans I.len⟩
theorem Inv.pins_of {pins':Dz}(I:Inv X aA σ H s)(h:∀p∈pins',s.heap.get? p.1=some p.2/\H p.1=none/\p.1≠X.env.locals/\p.1∉X.fs/\∀v,p.2.data≠.cell v):Inv X pins' σ H s:=
 ⟨I.ok,I.os,I.bare,I.base,I.loc,I.cell,I.free,I.freeC,λp hp=>(Aa0.mp hp).elim (λz=>I.pin p (Aq _ z)) (h p),I.hok,I.len⟩
theorem bS0 {N:AG}(z:N.Nodup){i j:Nat}{x:Str}(a:N[i]? = some x)(b:N[j]? = some x):i=j:=by
 obtain⟨h1,e⟩:=Ab0.mp a;obtain⟨r,y⟩:=Ab0.mp b;exact(List.getElem_inj z).mp (e.trans y.symm)
theorem bE5 {M:Model}{A:Around}{E:Dy}{i:Nat}{x:Str}{v:V}{u:Value}{Q:Unit->Shared->Prop}(I:Inv X aA σ H s)(hN:X.N.Nodup)(hi:X.N[i]? = some x)(J:Loc X.env.scope x)(r:RelV v u)
  (h:∀s',Inv X aA (σ.set i (some v)) H s'->(∃a,Heap.SameBut a s.heap s'.heap/\(a=X.env.locals\/X.env.cells.lookup x=some a))->Q () s') (hf:X.fn x=true\/X.env.scope.names.lookup x=some .local:=by first | exact .inl rfl | exact .inr rfl | assumption):wpAny M A (storeName X.env x u) Q E s:=by
 obtain⟨m,hn,hl⟩:=id I.loc;have hcls:(X.env.scope.kind == .class||(X.env.scope.kind == .module&&X.env.locals != X.env.globals))=false:=by rw[I.ok.kind];rfl
 have hiσ:i<σ.length:=by rw[I.len];exact(Ab0.mp hi).1
 have cne:=I.cne
 have U:∀{a:Addr} {h':Heap},(∃o,s.heap.get? a=some o/\H a=none)->Heap.SameBut a s.heap h'->HOk X.prog X.w H h':=λ{a h'} ha g b ob e=>by
  obtain⟨_,_,R⟩:=ha;refine(I.hok b ob e).stay (λc w' hc q=>(g.2 c ?_).trans q) (λ_ q=>q) λ_ _ q=>q
  rintro rfl;rcases hc with rfl | hc
  .rw[R]at e;cases e
  .rw[R]at hc;cases hc
 rcases J with hk | hk
 .refine wpAny_storeName_local hk hn (λh' hn' g=>?_) hcls
  obtain⟨oL,_,_,hoL,_⟩:=id hn;refine h _ ⟨I.ok,I.os,I.bare,⟨λb o e n F J=>?_,λb o e n F J=>?_,I.base.free,λb o e J=>?_,I.base.tups,I.base.frzs,I.base.tbls⟩,⟨_,hn',λj y v' Y D e3=>?_⟩,λy c e=>?_,I.free,I.freeC,λp hp=>?_,U ⟨oL,hoL,I.free⟩ g,by simpa using I.len⟩ ⟨_,g,.inl rfl⟩
  .exact(g.2 b (Ab9 (Ab8 (Ab3 e) I.ok.above))).trans (I.base.keep b o e n F J)
  .obtain⟨sl,Y⟩:=I.base.slot b o e n F J;exact⟨sl,(g.2 b (Ab9 (Ab8 (Ab3 e) I.ok.above))).trans Y⟩
  .obtain⟨o',Y⟩:=I.base.there b o e J;exact⟨o',(g.2 b (Ab9 (Ab8 (Ab3 e) I.ok.above))).trans Y⟩
  .by_cases P:j=i
   .subst P;rw[hi]at Y;cases Y;rw[Be hiσ]at D;cases D;exact⟨u,r,.inl ⟨hk,by simp⟩⟩
   .rw[Ad0 (Ne.symm P)]at D;obtain⟨u',r',q⟩:=hl j y v' Y D e3;refine⟨u',r',?_⟩;rcases q with⟨k,e⟩ | ⟨k,c,e,z⟩
    .refine .inl ⟨k,?_⟩
     have:y≠x:=λe=>P (bS0 hN Y (e▸hi))
     simp[this,e]
    .exact .inr ⟨k,c,e,z.sameBut g (cne y c e)⟩
  .obtain⟨w',z⟩:=I.cell y c e;exact⟨w',z.sameBut g (cne y c e)⟩
  .obtain⟨e,n,ne,nf,d⟩:=I.pin p hp;exact⟨(g.2 p.1 ne).trans e,n,ne,nf,d⟩
 .have B:X.fn x=true:=by
   rcases hf with z | z
   .exact z
   .rw[z]at hk;cases hk
  obtain⟨c,hc⟩:=I.ok.has x (.inl hk);obtain⟨w',z⟩:=I.cell x c hc;refine wpAny_storeName_cell I.ok.kind hk hc z (λh' hc' g=>?_)
  obtain⟨oc,hoc,hocd⟩:=id z;refine h {s with heap:=h'} ⟨I.ok,I.os,I.bare,⟨λb o e n F J=>?_,λb o e n F J=>?_,I.base.free,λb o e J=>?_,I.base.tups,I.base.frzs,I.base.tbls⟩,⟨m,hn.sameBut g (Ne.symm (cne x c hc)),λj y v' Y D e3=>?_⟩,λy c' e=>?_,I.free,I.freeC,λp hp=>?_,U ⟨oc,hoc,I.freeC x c hc⟩ g,by simpa using I.len⟩ ⟨c,g,.inr hc⟩
  .exact(g.2 b (Ab9 (Ab8 (Ab3 e) (I.ok.cab x c B hc)))).trans (I.base.keep b o e n F J)
  .obtain⟨sl,Y⟩:=I.base.slot b o e n F J;exact⟨sl,(g.2 b (Ab9 (Ab8 (Ab3 e) (I.ok.cab x c B hc)))).trans Y⟩
  .obtain⟨o',Y⟩:=I.base.there b o e J;exact⟨o',(g.2 b (Ab9 (Ab8 (Ab3 e) (I.ok.cab x c B hc)))).trans Y⟩
  .by_cases P:j=i
   .subst P;rw[hi]at Y;cases Y;rw[Be hiσ]at D;cases D;exact⟨u,r,.inr ⟨.inl hk,c,hc,hc'⟩⟩
   .rw[Ad0 (Ne.symm P)]at D;obtain⟨u',r',q⟩:=hl j y v' Y D e3;refine⟨u',r',?_⟩;rcases q with q | ⟨k,c',e,z'⟩
    .exact .inl q
    .refine .inr ⟨k,c',e,z'.sameBut g ?_⟩;rintro rfl;exact P (bS0 hN Y (I.ok.inj _ _ _ e hc▸hi))
  .by_cases hcc:c'=c
   .subst hcc;exact⟨_,hc'⟩
   .obtain⟨w2,z2⟩:=I.cell y c' e;exact⟨w2,z2.sameBut g hcc⟩
  .obtain⟨e,n,ne,nf,d⟩:=I.pin p hp;refine⟨(g.2 p.1 ?_).trans e,n,ne,nf,d⟩;intro q;rw[q,hoc]at e;have q':oc=p.2:=Ab4 e;exact d w' (by rw[<- q'];exact hocd)
theorem aV8 {M:Model}{A:Around}{E:Dy}{i:Nat}{x:Str}{v:V}{u:Value}{Q:Unit->Shared->Prop}(I:Inv X aA σ H s)(y:X.N.Nodup)(hi:X.N[i]? = some x)(g:Loc X.env.scope x)(r:RelV v u)
  (h:∀s',Inv X aA (σ.set i (some v)) H s'->Q () s') (z:X.fn x=true\/X.env.scope.names.lookup x=some .local:=by first | exact .inl rfl | exact .inr rfl | assumption):wpAny M A (storeName X.env x u) Q E s:=
 bE5 I y hi g r (λs' e _=>h s' e) z
theorem Inv.call' {s':Shared}{ch:AK}(I:Inv X aA σ H s)(ho:s'.os=s.os)(u:Un (frs X.stack) ch H H' s.heap s'.heap)(z:HOk X.prog X.w H' s'.heap)(hg:AllBare s'.gens)
  (y:∀b∈ch,(b∈X.ex\/X.s₀.heap.objs.size<=b)/\b≠X.env.locals/\(∀x c,X.env.cells.lookup x=some c->c≠b)/\∀p∈X.pn++aA,p.1≠b):Inv X aA σ H' s':=by
 obtain⟨h',g',d',t',r⟩:=s';have e:r=s.os:=ho;subst e;exact I.call (g':=g') (t':=t') (d':=d') u z hg y
end
abbrev XK:=Value->AJ->Hp->Prop
abbrev St:=List (Option V)
abbrev VK:=V->Hp->Prop
abbrev TE:=St->Hp->VK->Prop
abbrev TT:=St->Hp->(Bool->Hp->Prop)->Prop
abbrev TA:=St->Hp->(List V->Hp->Prop)->Prop
structure bH5 where
 nx:St->Hp->Prop
 rt:VK
 bk:St->Hp->Prop:=λ_ _=>False
 ct:St->Hp->Prop:=λ_ _=>False
abbrev TS:=bH5->St->Hp->Prop
def EP (X:Cx)(aA:Dz)(σ:St)(Q:VK)(u:Value)(s':Shared):Prop:=∃v H',Inv X aA σ H' s'/\RelV v u/\Q v H'
def TP (X:Cx)(aA:Dz)(σ:St)(Q:Bool->Hp->Prop)(b:Bool)(s':Shared):Prop:=∃H',Inv X aA σ H' s'/\Q b H'
def AP (X:Cx)(aA:Dz)(σ:St)(Q:List V->Hp->Prop)(us:AF)(s':Shared):Prop:=∃vs H',Inv X aA σ H' s'/\Vals vs us/\Q vs H'
def SP (X:Cx)(aA:Dz)(D:bH5)(f:Flow)(s':Shared):Prop:=
 match f with
 | .next=>∃σ' H',Inv X aA σ' H' s'/\D.nx σ' H'
 | .brk=>∃σ' H',Inv X aA σ' H' s'/\D.bk σ' H'
 | .cont=>∃σ' H',Inv X aA σ' H' s'/\D.ct σ' H'
 | .ret u=>∃v σ' H',Inv X aA σ' H' s'/\RelV v u/\D.rt v H'
structure PE (X:Cx)(e:Expr)(t:TE):Prop where
 mk ::
 run :
  ∀(aA:Dz) (s:Shared) (σ:St) (H:Hp) (Q:VK),Inv X aA σ H s->t σ H Q->wpAny (model X.prog X.w) X.A (eval e X.env) (EP X aA σ Q) X.xe s
instance {X:Cx} {e:Expr} {t:TE}:CoeFun (PE X e t) λ_=>
 (∀(aA:Dz) (s:Shared) (σ:St) (H:Hp) (Q:VK),Inv X aA σ H s->t σ H Q->wpAny (model X.prog X.w) X.A (eval e X.env) (EP X aA σ Q) X.xe s):=⟨PE.run⟩
structure PT (X:Cx)(e:Expr)(t:TT):Prop where
 mk ::
 run :
  ∀(aA:Dz) (s:Shared) (σ:St) (H:Hp) (Q:Bool->Hp->Prop),Inv X aA σ H s->t σ H Q->wpAny (model X.prog X.w) X.A (isTrue e X.env (eval e X.env)) (TP X aA σ Q) X.xe s
instance {X:Cx} {e:Expr} {t:TT}:CoeFun (PT X e t) λ_=>
 (∀(aA:Dz) (s:Shared) (σ:St) (H:Hp) (Q:Bool->Hp->Prop),Inv X aA σ H s->t σ H Q->wpAny (model X.prog X.w) X.A (isTrue e X.env (eval e X.env)) (TP X aA σ Q) X.xe s):=⟨PT.run⟩
structure PW (X:Cx)(e:Expr)(t:TT):Prop where
 mk ::
 run :
  ∀(whole:Sem Value) (aA:Dz) (s:Shared) (σ:St) (H:Hp) (Q:Bool->Hp->Prop),Inv X aA σ H s->t σ H Q->wpAny (model X.prog X.w) X.A (isTrue e X.env whole) (TP X aA σ Q) X.xe s
instance {X:Cx} {e:Expr} {t:TT}:CoeFun (PW X e t) λ_=>
 (∀(whole:Sem Value) (aA:Dz) (s:Shared) (σ:St) (H:Hp) (Q:Bool->Hp->Prop),Inv X aA σ H s->t σ H Q->wpAny (model X.prog X.w) X.A (isTrue e X.env whole) (TP X aA σ Q) X.xe s):=⟨PW.run⟩
theorem PW.pt {X:Cx}{e:Expr}{t:TT}(h:PW X e t):PT X e t:=⟨h _⟩
structure PA (X:Cx)(es:AL)(t:TA):Prop where
 mk ::
 run :
  ∀(pos:Pos) (aA:Dz) (s:Shared) (σ:St) (H:Hp) (Q:List V->Hp->Prop),Inv X aA σ H s->t σ H Q->wpAny (model X.prog X.w) X.A (spliced (backTo pos (starEach es X.env))) (AP X aA σ Q) X.xe s
instance {X:Cx} {es:AL} {t:TA}:CoeFun (PA X es t) λ_=>
 (∀(pos:Pos) (aA:Dz) (s:Shared) (σ:St) (H:Hp) (Q:List V->Hp->Prop),Inv X aA σ H s->t σ H Q->wpAny (model X.prog X.w) X.A (spliced (backTo pos (starEach es X.env))) (AP X aA σ Q) X.xe s):=⟨PA.run⟩
structure PS (X:Cx)(st:Stmt)(t:TS):Prop where
 mk ::
 run :
  ∀(aA:Dz) (s:Shared) (σ:St) (H:Hp) (D:bH5),Inv X aA σ H s->t D σ H->wpAny (model X.prog X.w) X.A (exec st X.env) (SP X aA D) X.xe s
instance {X:Cx} {st:Stmt} {t:TS}:CoeFun (PS X st t) λ_=>
 (∀(aA:Dz) (s:Shared) (σ:St) (H:Hp) (D:bH5),Inv X aA σ H s->t D σ H->wpAny (model X.prog X.w) X.A (exec st X.env) (SP X aA D) X.xe s):=⟨PS.run⟩
structure PSs (X:Cx)(st:List Stmt)(t:TS):Prop where
 mk ::
 run :
  ∀(aA:Dz) (s:Shared) (σ:St) (H:Hp) (D:bH5),Inv X aA σ H s->t D σ H->wpAny (model X.prog X.w) X.A (execs st X.env) (SP X aA D) X.xe s
instance {X:Cx} {st:List Stmt} {t:TS}:CoeFun (PSs X st t) λ_=>
 (∀(aA:Dz) (s:Shared) (σ:St) (H:Hp) (D:bH5),Inv X aA σ H s->t D σ H->wpAny (model X.prog X.w) X.A (execs st X.env) (SP X aA D) X.xe s):=⟨PSs.run⟩
theorem thn {α:Type}{t:Sem α}{Q Q':α->Shared->Prop}{M:Model}{A:Around}{E:Dy}{s:Shared}(h:wpAny M A t Q E s)(e:∀a s,Q a s->Q' a s):wpAny M A t Q' E s:=wpAny_mono h e λ_ _ x=>x
section
variable {X:Cx}
def J7 (i:Nat):TE:=λσ H Q=>∃v,σ[i]? = some (some v)/\Q v H
def tC (v:V):TE:=λ_ H Q=>Q v H
theorem dZ5 {i:Nat}{x:Str}{pos:Pos}(J:X.N[i]? = some x)(F:Vis X.env.scope x)(k:(x==("__debug__" : Str))=false:=by decide)(g:(x==("__classdict__" : Str))=false:=by decide):PE X (.Name x pos) (J7 i):=by
 refine⟨?_⟩;intro U s σ H Q I h;obtain⟨v,e,h⟩:=h;obtain⟨m,D,M⟩:=I.loc;obtain⟨u,r,l⟩:=M i x v J e F;have z:EP X U σ Q u s:=⟨v,H,I,r,h⟩;rcases l with⟨hk,R⟩ | ⟨hk,c,Y,y⟩
 .exact wpAny_Name (wpAny_loadName_local I.ok.kind hk D R z) k
 .rcases hk with hk | hk
  .exact wpAny_Name (wpAny_loadName_cell I.ok.kind hk Y y z) k
  .exact wpAny_Name (wpAny_loadName_free I.ok.kind hk Y y z g) k
theorem A7 {i j pos}:PE X (.Constant (.int i) j pos) (tC (.int i)):=⟨λ_ _ _ H _ I h=>wpAny_Constant_int ⟨.int i,H,I.tok _,⟨_,rfl⟩,h⟩⟩
theorem aC4 {b j pos}:PE X (.Constant (.bool b) j pos) (tC (.bl b)):=⟨λ_ _ _ H _ I h=>Constant_bool ⟨.bl b,H,I,rfl,h⟩⟩
theorem aB8 {j pos}:PE X (.Constant .none j pos) (tC .non):=⟨λ_ _ _ H _ I h=>Constant_none ⟨.non,H,I,rfl,h⟩⟩
theorem E7 {x j pos}:PE X (.Constant (.str x) j pos) (tC (.str x)):=⟨λ_ _ _ H _ I h=>Calls.Constant_str ⟨.str x,H,I.tok _,⟨_,rfl⟩,h⟩⟩
def Gl (X:Cx)(x:Str):Prop:=X.env.kindOf x=some .globalImplicit
theorem bH6 {E:Dy}{aA:Dz}{s:Shared}{σ:St}{H:Hp}{x:Str}{u:Value}{pos:Pos}{Q:Dy}(I:Inv X aA σ H s)(hg:Gl X x)(y:X.mg x=some u)(h:Q u s)
  (e:(x==("__debug__" : Str))=false:=by decide):wpAny (model X.prog X.w) X.A (eval (.Name x pos) X.env) Q E s:=
 Calls.Name_function_global I.ok.kind hg (Calls.loadGlobal_global (by rw[I.ok.glob];exact I.mod.glob.keeps I.bk) y h) e
theorem R9 {E:Dy}{aA:Dz}{s:Shared}{σ:St}{H:Hp}{x:Str}{u:Value}{pos:Pos}{Q:Dy}(I:Inv X aA σ H s)(hg:Gl X x)(z:X.mg x=none)(g:bootBuiltins x=some u)(h:Q u s)
  (r:x≠"__name__" := by decide) (y:(x==("__debug__" : Str))=false:=by decide):wpAny (model X.prog X.w) X.A (eval (.Name x pos) X.env) Q E s:=by
 obtain⟨k,h1,e⟩:=I.mod.blt;exact Calls.Name_function_global I.ok.kind hg (Calls.loadGlobal_builtin (by rw[I.ok.glob];exact I.mod.glob.keeps I.bk) z (by rw[I.ok.blt];exact h1.keeps I.bk) ((e x r).trans g) h) y
theorem M6 {x:Str}{v:V}{u:Value}{pos:Pos}(hg:Gl X x)(y:X.mg x=some u)(r:RelV v u)(e:(x==("__debug__" : Str))=false:=by decide):PE X (.Name x pos) (tC v):=⟨λ_ _ _ H _ I h=>bH6 I hg y ⟨v,H,I,r,h⟩ e⟩
theorem dK0 {x:Str}{v:V}{u:Value}{pos:Pos}(hg:Gl X x)(y:X.mg x=none)(g:bootBuiltins x=some u)(r:RelV v u)(z:x≠"__name__" := by decide)(e:(x==("__debug__" : Str))=false:=by decide):PE X (.Name x pos) (tC v):=⟨λ_ _ _ H _ I h=>R9 I hg y g ⟨v,H,I,r,h⟩ z e⟩
def t2I (ta tb:TE)(k:Int->Int->Hp->Prop):St->Hp->Prop:=λσ H=>ta σ H λx H1=>tb σ H1 λy H2=>∃i j,x=.int i/\y=.int j/\k i j H2
variable {a b:Expr}{ta tb:TE}{pos:Pos}
structure PC (X:Cx)(op:CmpOp)(a b:Expr)(t:TE):Prop where
 mk ::
 run :
  ∀(aA:Dz) (s:Shared) (σ:St) (H:Hp) (Q:VK),Inv X aA σ H s->t σ H Q ->
   wpAny (model X.prog X.w) X.A (eval a X.env) (λv s₁=>wpAny (model X.prog X.w) X.A (eval b X.env) (λu s₂=>wpAny (model X.prog X.w) X.A (compareOp op v u) (EP X aA σ Q) X.xe s₂) X.xe s₁) X.xe s
instance {X:Cx} {op:CmpOp} {a b:Expr} {t:TE}:CoeFun (PC X op a b t) λ_=>
 (∀(aA:Dz) (s:Shared) (σ:St) (H:Hp) (Q:VK),Inv X aA σ H s->t σ H Q ->
  wpAny (model X.prog X.w) X.A (eval a X.env) (λv s₁=>wpAny (model X.prog X.w) X.A (eval b X.env) (λu s₂=>wpAny (model X.prog X.w) X.A (compareOp op v u) (EP X aA σ Q) X.xe s₂) X.xe s₁) X.xe s):=⟨PC.run⟩
def cJ5 (p:Int->Int->Bool)(ta tb:TE):TE:=λσ H Q=>t2I ta tb (λi j H2=>Q (.bl (p i j)) H2) σ H
abbrev tLt:TE->TE->TE:=cJ5 λi j=>decide (i<j)
abbrev tLe:TE->TE->TE:=cJ5 λi j=>decide (i<=j)
abbrev tGt:TE->TE->TE:=cJ5 λi j=>decide (j<i)
abbrev tGe:TE->TE->TE:=cJ5 λi j=>decide (j<=i)
abbrev eM1:TE->TE->TE:=cJ5 λi j=>decide (i=j)
abbrev eM0:TE->TE->TE:=cJ5 λi j => !decide (i=j)
def tB (t:TE):TT:=λσ H Q=>t σ H λx H1=>∃c,x=.bl c/\Q c H1
theorem aJ2 {e:Expr}{t:TE}(h:PE X e t)(g:∀whole,isTrue e X.env whole=(do let v <- whole;standAt e.pos;holding [v] (truthy v)):=by intro _;rfl):PT X e (tB t):=by
 refine⟨?_⟩;intro r s σ H Q I k;refine isTrue_plain (thn (h r s σ H _ I k) λv U ⟨x,y,z,Y,m⟩=>?_) (g _)
 obtain⟨d,rfl,q⟩:=m;cases Y;exact wpAny_truthy_bool ⟨y,z,q⟩
variable {tA tB':TT}{rest:AL}
def dT4 (t u:TT):TT:=λσ H Q=>t σ H λc H1=>if c=true then u σ H1 Q else Q false H1
def tOr (t u:TT):TT:=λσ H Q=>t σ H λc H1=>if c=true then Q true H1 else u σ H1 Q
def eA0 (t:TT):TT:=λσ H Q=>t σ H λc H1=>Q (!c) H1
theorem bH4 (z:PT X a tA):PW X (.BoolOp .And [a] pos) tA:=by
 refine⟨?_⟩;intro g y s σ H Q I h;refine isTrue_and (thn (z y s σ H Q I h) λc r e=>?_)
 cases c with
 | true=>exact isTrue_and_nil e
 | false=>exact e
theorem v5 (z:PT X a tA):PW X (.BoolOp .Or [a] pos) tA:=by
 refine⟨?_⟩;intro g y s σ H Q I h;refine isTrue_or (thn (z y s σ H Q I h) λc r e=>?_)
 cases c with
 | false=>exact isTrue_or_nil e
 | true=>exact e
theorem bU4 (g:PT X a tA)(k:PW X (.BoolOp .And (b::rest) pos) tB'):PW X (.BoolOp .And (a::b::rest) pos) (dT4 tA tB'):=by
 refine⟨?_⟩;intro Y z s σ H Q I h;refine isTrue_and (thn (g z s σ H _ I h) λc m ⟨e,y,r⟩=>?_)
 cases c with
 | true=>exact k Y z m σ e Q y r
 | false=>exact⟨e,y,r⟩
theorem T2 (g:PT X a tA)(k:PW X (.BoolOp .Or (b::rest) pos) tB'):PW X (.BoolOp .Or (a::b::rest) pos) (tOr tA tB'):=by
 refine⟨?_⟩;intro Y z s σ H Q I h;refine isTrue_or (thn (g z s σ H _ I h) λc m ⟨e,y,r⟩=>?_)
 cases c with
 | true=>exact⟨e,y,r⟩
 | false=>exact k Y z m σ e Q y r
theorem aH7 (z:PT X a tA):PT X (.UnaryOp .Not a pos) (eA0 tA):=by
 refine⟨?_⟩;intro y s σ H Q I h;exact isTrue_not (z y s σ H (λc e=>Q (!c) e) I h)
def dK7 (ta tb:TE):TE:=λσ H Q=>ta σ H λx H1=>∃c,x=.bl c/\if c=true then tb σ H1 Q else Q (.bl false) H1
def dL6 (ta:TE):TE:=λσ H Q=>ta σ H λx H1=>∃c,x=.bl c/\Q (.bl (!c)) H1
theorem cW3 {op}{t:TE}(h:PE X a t):PE X (.BoolOp op [a] pos) t:=⟨λe s σ H Q I y=>BoolOp_one (h e s σ H Q I y)⟩
theorem cQ5 (g:PE X a ta)(k:PE X (.BoolOp .And (b::rest) pos) tb):PE X (.BoolOp .And (a::b::rest) pos) (dK7 ta tb):=by
 refine⟨?_⟩;intro r s σ H Q I h;refine BoolOp_and (thn (g r s σ H _ I h) λv Y ⟨x,y,z,m,e⟩=>?_)
 obtain⟨c,rfl,e⟩:=e;cases m;refine wpAny_truthy_bool ?_;cases c with
 | true=>exact k r Y σ y Q z e
 | false=>exact⟨.bl false,y,z,rfl,e⟩
theorem dQ9 (g:PE X a ta):PE X (.UnaryOp .Not a pos) (dL6 ta):=by
 refine⟨?_⟩;intro r s σ H Q I h;refine UnaryOp_ (thn (g r s σ H _ I h) λv m ⟨x,y,z,k,e⟩=>?_)
 obtain⟨c,rfl,e⟩:=e;cases k;exact not_of (wpAny_truthy_bool ⟨.bl (!c),y,z,rfl,e⟩)
def tIf (t:TT)(ta tb:TE):TE:=λσ H Q=>t σ H λc H1=>if c=true then ta σ H1 Q else tb σ H1 Q
theorem aK5 {c:Expr}(Y:PT X c tA)(k:PE X a ta)(m:PE X b tb):PE X (.IfExp c a b pos) (tIf tA ta tb):=by
 refine⟨?_⟩;intro e s σ H Q I h;refine wpAny_IfExp (thn (Y e s σ H _ I h) λd g ⟨y,z,r⟩=>?_)
 cases d with
 | true=>exact k e g σ y Q z r
 | false=>exact m e g σ y Q z r
end
def SqL (K:Frag)(H:Hp)(a:Addr)(xs:List V):Prop:=
 Rd H a (.lst xs) \/
  ∃(o:Obj) (its:AH) (n:Nat),K.lookup a=some o/\o.cls=.type "list" /\ o.dict=none/\o.data=.seq its n/\its.size<=sizeLine/\Vals xs its.toList
def SqT (K:Frag)(H:Hp)(a:Addr)(xs:List V):Prop:=
 Rd H a (.tup xs) \/
  ∃(o:Obj) (its:AH) (n:Nat),K.lookup a=some o/\o.cls=.type "tuple" /\ o.dict=none/\o.data=.seq its n/\its.size<=sizeLine/\Vals xs its.toList
def eL8:Value->Option V
 | .none=>some .non
 | .bool b=>some (.bl b)
 | .int i _=>some (.int i)
 | .str x _=>some (.str x)
 | .bytes b _=>some (.byt b)
 | .float b _=>some (.flt b)
 | .ref a=>some (.ref a)
 | .type n=>some (.ty n)
 | _=>none
theorem RelV.abs {x:V}{u:Value}(r:RelV x u):eL8 u=some x:=by
 cases x with
 | non=>cases r;rfl
 | bl _=>cases r;rfl
 | int _=>obtain⟨t,rfl⟩:=r;rfl
 | str _=>obtain⟨t,rfl⟩:=r;rfl
 | byt _=>obtain⟨t,rfl⟩:=r;rfl
 | flt _=>obtain⟨t,rfl⟩:=r;rfl
 | ref _=>cases r;rfl
 | ty _=>cases r;rfl
theorem RelV.inj {x y:V}{u:Value}(r:RelV x u)(q:RelV y u):x=y:=Ab4 (r.abs.symm.trans q.abs)
theorem Vals.inj:∀{xs ys:List V} {us:AF},Vals xs us->Vals ys us->xs=ys
 | _,_,_,.nil,.nil=>rfl
 | _,_,_,.cons r t,.cons r' t'=>by rw[r.inj r',Vals.inj t t']
section
variable {X:Cx}{aA:Dz}{σ:St}{H:Hp}{s:Shared}{a:Addr}{xs ys:List V}
theorem SqL.of {K:Frag}(h:H a=some (.lst xs)):SqL K H a xs:=.inl (.inl h)
theorem SqT.of {K:Frag}(h:H a=some (.tup xs)):SqT K H a xs:=.inl (.inl h)
theorem Inv.list (I:Inv X aA σ H s)(h:SqL X.K H a xs):∃its:AF,Vals xs its/\PlainL s.heap a its.toArray/\xs.length<=sizeLine:=by
 rcases h with h | ⟨o,its,n,k,y,g,m,Y,r⟩
 .obtain⟨z,its,n,r,e⟩:=h.ok I.hok;exact⟨its,r,⟨_,n,e,rfl,rfl,rfl⟩,z⟩
 .refine⟨its.toList,r,⟨o,n,I.kIn a o k,y,g,by simpa using m⟩,?_⟩
  have e:=r.length
  simp only[Ap]at e
  lia
theorem Inv.tuple0 (I:Inv X aA σ H s)(h:SqT X.K H a xs):∃its:AF,Vals xs its/\Tup0 s.heap a its.toArray/\xs.length<=sizeLine:=by
 rcases h with h | ⟨o,its,n,k,y,g,m,Y,r⟩
 .obtain⟨z,its,r,p⟩:=h.ok I.hok;exact⟨its,r,p,z⟩
 .refine⟨its.toList,r,⟨o,I.kIn a o k,y,⟨n,by simpa using m⟩,g⟩,?_⟩
  have e:=r.length
  simp only[Ap]at e
  lia
theorem Inv.tuple (I:Inv X aA σ H s)(h:SqT X.K H a xs):∃its:AF,Vals xs its/\IsTup s.heap a its.toArray/\xs.length<=sizeLine:=by
 obtain⟨its,r,p,z⟩:=I.tuple0 h;exact⟨its,r,p.tup,z⟩
theorem Inv.list_inj (I:Inv X aA σ H s)(h:SqL X.K H a xs)(h':SqL X.K H a ys):xs=ys:=by
 obtain⟨its,r,⟨o,n,e,_,_,d⟩,_⟩:=I.list h;obtain⟨y,k,⟨m,n',e',_,_,z⟩,_⟩:=I.list h';rw[e]at e';cases e';rw[d]at z
 injection z with g _
 have:its=y:=by simpa using congrArg Array.toList g
 subst this;exact r.inj k
theorem Inv.tuple_inj (I:Inv X aA σ H s)(h:SqT X.K H a xs)(h':SqT X.K H a ys):xs=ys:=by
 obtain⟨its,r,⟨o,e,_,n,d⟩,_⟩:=I.tuple h;obtain⟨y,k,⟨m,e',_,n',z⟩,_⟩:=I.tuple h';rw[e]at e';cases e';rw[d]at z
 injection z with g _
 have:its=y:=by simpa using congrArg Array.toList g
 subst this;exact r.inj k
end
abbrev Cx.wish (X:Cx)(E:Dy):Cx:={X with xe:=E}
abbrev Cx.nox (X:Cx):Cx:=X.wish λ_ _=>False
theorem Cx.Ok.wish {X:Cx}(ok:X.Ok)(E:Dy):(X.wish E).Ok:=
 ⟨ok.mod,ok.kind,ok.glob,ok.blt,ok.above,ok.inj,ok.has,ok.cab,ok.hd,ok.frames,ok.stk,ok.exf,ok.bs,ok.bsz,ok.noex,ok.exfs,ok.funs,ok.frf⟩
theorem Cx.Ok.unwish {X:Cx}{E:Dy}(ok:(X.wish E).Ok):X.Ok:=
 ⟨ok.mod,ok.kind,ok.glob,ok.blt,ok.above,ok.inj,ok.has,ok.cab,ok.hd,ok.frames,ok.stk,ok.exf,ok.bs,ok.bsz,ok.noex,ok.exfs,ok.funs,ok.frf⟩
section
variable {X:Cx}{aA:Dz}{σ:St}{H:Hp}{s:Shared}{E:Dy}
theorem Inv.wish (I:Inv X aA σ H s)(E:Dy):Inv (X.wish E) aA σ H s:=⟨I.ok.wish E,I.os,I.bare,I.base,I.loc,I.cell,I.free,I.freeC,I.pin,I.hok,I.len⟩
theorem Inv.unwish (I:Inv (X.wish E) aA σ H s):Inv X aA σ H s:=⟨I.ok.unwish,I.os,I.bare,I.base,I.loc,I.cell,I.free,I.freeC,I.pin,I.hok,I.len⟩
theorem SP.unwish {D:bH5}{f:Flow}{s':Shared}(h:SP (X.wish E) aA D f s'):SP X aA D f s':=by
 cases f with
 | next=>obtain⟨y,e,I,q⟩:=h;exact⟨y,e,I.unwish,q⟩
 | brk=>obtain⟨y,e,I,q⟩:=h;exact⟨y,e,I.unwish,q⟩
 | cont=>obtain⟨y,e,I,q⟩:=h;exact⟨y,e,I.unwish,q⟩
 | ret u=>obtain⟨v,y,e,I,r,q⟩:=h;exact⟨v,y,e,I.unwish,r,q⟩
theorem PSs.nox {st:List Stmt}{t:TS}(h:PSs X.nox st t):PSs X st t:=⟨λaA s σ H D I e=>
 wpAny_mono (h aA s σ H D (I.wish _) e) (λ_ _ q=>q.unwish) λ_ _ z=>False.elim z⟩
end
section
variable {X:Cx}{st:Stmt}{rest:List Stmt}{t u:TS}{e:Expr}{te:TE}{pos:Pos}
def dL4:TS:=λD σ H=>D.nx σ H
def eI0 (t u:TS):TS:=λD σ H=>t {D with nx:=u D} σ H
theorem H9:PSs X [] dL4:=⟨λ_ _ σ H _ I h=>wpAny_execs_nil ⟨σ,H,I,h⟩⟩
theorem A6 (h1:PS X st t)(g:PSs X rest u):PSs X (st::rest) (eI0 t u):=by
 refine⟨?_⟩;intro y s σ H D I h;refine wpAny_execs_cons (thn (h1 y s σ H {D with nx:=u D} I h) λf k q=>?_)
 cases f with
 | next=>
  obtain⟨m,z,r,q⟩:=q;exact g y k m z D r q
 | ret v=>exact q
 | brk=>exact q
 | cont=>exact q
theorem B0 (h1:PS X st t):PSs X [st] t:=by
 refine⟨?_⟩;intro y s σ H D I h;refine wpAny_execs_cons (thn (h1 y s σ H D I h) λf z q=>?_)
 cases f with
 | next=>exact wpAny_execs_nil q
 | ret v=>exact q
 | brk=>exact q
 | cont=>exact q
theorem Inv.quiet {aA:Dz}{σ:St}{H:Hp}{s:Shared}(I:Inv X aA σ H s):interactive X.env=false:=by simp[interactive,I.ok.kind]
def bA2 (te:TE):TS:=λD σ H=>te σ H λ_ H1=>D.nx σ H1
theorem E8 (g:PE X e te)(k:swapsWith e none pos.line X.env=pure false:=by rfl):PS X (.Expr e pos) (bA2 te):=by
 refine⟨?_⟩;intro r s σ H D I h;exact wpAny_Expr_any (thn (g r s σ H _ I h) λv U ⟨x,y,z,Y,m⟩=>⟨σ,y,z,m⟩) I.quiet k
def dE2 (te:TE):TS:=λD σ H=>te σ H D.rt
theorem D2 (g:PE X e te):PS X (.Return (some e) pos) (dE2 te):=by
 refine⟨?_⟩;intro r s σ H D I h;exact wpAny_Return_some (thn (g r s σ H _ I h) λv Y ⟨x,y,z,m,k⟩=>⟨x,σ,y,z,m,k⟩)
def dB9 (c:TT)(t u:TS):TS:=λD σ H=>c σ H λb H1=>if b=true then t D σ H1 else u D σ H1
theorem N5 {c:Expr}{a b:List Stmt}{tc:TT}(U:PT X c tc)(m:PSs X a t)(Y:PSs X b u):PS X (.If c a b pos) (dB9 tc t u):=by
 refine⟨?_⟩;intro y s σ H D I h;refine wpAny_If (thn (U y s σ H _ I h) λd k ⟨z,r,g⟩=>?_)
 cases d with
 | true=>exact m y k σ z D r g
 | false=>exact Y y k σ z D r g
def dV7:TS:=λ_ _ _=>False
theorem aQ3 {sts:List Stmt}:PSs X sts dV7:=⟨λ_ _ _ _ _ _ h=>h.elim⟩
end
abbrev TG:=V->St->Hp->(St->Hp->Prop)->Prop
abbrev TGs:=List V->St->Hp->(St->Hp->Prop)->Prop
structure PG (X:Cx)(target:Expr)(t:TG):Prop where
 mk ::
 run :
  ∀(aA:Dz) (s:Shared) (σ:St) (H:Hp) (v:V) (u:Value) (Q:St->Hp->Prop),Inv X aA σ H s->RelV v u->t v σ H Q ->
   wpAny (model X.prog X.w) X.A (assign target X.env u) (λ_ s'=>∃σ' H',Inv X aA σ' H' s'/\Q σ' H') X.xe s
instance {X:Cx} {target:Expr} {t:TG}:CoeFun (PG X target t) λ_=>
 (∀(aA:Dz) (s:Shared) (σ:St) (H:Hp) (v:V) (u:Value) (Q:St->Hp->Prop),Inv X aA σ H s->RelV v u->t v σ H Q ->
  wpAny (model X.prog X.w) X.A (assign target X.env u) (λ_ s'=>∃σ' H',Inv X aA σ' H' s'/\Q σ' H') X.xe s):=⟨PG.run⟩
structure PGs (X:Cx)(ts:AL)(t:TGs):Prop where
 mk ::
 run :
  ∀(aA:Dz) (s:Shared) (σ:St) (H:Hp) (vs:List V) (us:AF) (Q:St->Hp->Prop),Inv X aA σ H s->Vals vs us->t vs σ H Q ->
   wpAny (model X.prog X.w) X.A (assignInOrder ((assignEach ts X.env).map (·.2)) us) (λ_ s'=>∃σ' H',Inv X aA σ' H' s'/\Q σ' H') X.xe s
instance {X:Cx} {ts:AL} {t:TGs}:CoeFun (PGs X ts t) λ_=>
 (∀(aA:Dz) (s:Shared) (σ:St) (H:Hp) (vs:List V) (us:AF) (Q:St->Hp->Prop),Inv X aA σ H s->Vals vs us->t vs σ H Q ->
  wpAny (model X.prog X.w) X.A (assignInOrder ((assignEach ts X.env).map (·.2)) us) (λ_ s'=>∃σ' H',Inv X aA σ' H' s'/\Q σ' H') X.xe s):=⟨PGs.run⟩
abbrev dP8:=V->V->V->Hp->(Hp->Prop)->Prop
def eD6 (X:Cx)(t:dP8):Prop:=
 ∀(aA:Dz) (s:Shared) (σ:St) (H:Hp) (o i v:V) (ov iv u:Value) (Q:Hp->Prop),Inv X aA σ H s->RelV o ov->RelV i iv->RelV v u->t o i v H Q ->
  wpAny (model X.prog X.w) X.A (setItem ov iv u) (λ_ s'=>∃H',Inv X aA σ H' s'/\Q H') X.xe s
abbrev TIp:=V->V->Hp->VK->Prop
def PIp (X:Cx)(op:Operator)(t:TIp):Prop:=
 ∀(aA:Dz) (s:Shared) (σ:St) (H:Hp) (x y:V) (v u:Value) (Q:VK),Inv X aA σ H s->RelV x v->RelV y u->t x y H Q ->
  wpAny (model X.prog X.w) X.A (inplaceOp op v u) (EP X aA σ Q) X.xe s
section
variable {X:Cx}{pos:Pos}
def V6 (i:Nat):TG:=λv σ H Q=>Q (σ.set i (some v)) H
theorem C5 {i:Nat}{x:Str}(y:X.N.Nodup)(hi:X.N[i]? = some x)(g:Loc X.env.scope x)(z:X.fn x=true\/X.env.scope.names.lookup x=some .local:=by first | exact .inl rfl | exact .inr rfl | assumption):PG X (.Name x pos) (V6 i):=by
 refine⟨?_⟩;intro k s σ H v u Q I r h;exact wpAny_assign_Name (aV8 I y hi g r (λm e=>⟨_,H,e,h⟩) z)
def cK1:TGs:=λvs σ H Q=>vs=[]/\Q σ H
def aV7 (t:TG)(u:TGs):TGs:=λvs σ H Q=>∃v r,vs=v::r/\t v σ H λσ' H'=>u r σ' H' Q
theorem aF7:PGs X [] cK1:=by
 refine⟨?_⟩;intro y s σ H vs z Q I r h;obtain⟨e,h⟩:=h;subst e;cases r;exact assignInOrder_nil ⟨σ,H,I,h⟩
theorem O2 {e:Expr}{es:AL}{t:TG}{u:TGs}(h1:PG X e t)(m:PGs X es u)
  (Y:(assignEach (e::es) X.env).map (·.2)=assign e X.env::(assignEach es X.env).map (·.2):=by rfl):PGs X (e::es) (aV7 t u):=by
 refine⟨?_⟩;intro y s σ H vs N Q I r h;obtain⟨v,R,k,h⟩:=h;subst k;cases r with
 | cons r rr=>
  rw[Y];refine assignInOrder_cons (thn (h1 y s σ H _ _ _ I r h) λ_ J ⟨M,z,g,U⟩=>?_)
  exact m y J M z _ _ Q g rr U
def dG7 (K:Frag)(n:Nat)(t:TGs):TG:=λv σ H Q=>∃a xs,v=.ref a/\SqT K H a xs/\xs.length=n/\t xs σ H Q
theorem aR5 {es:AL}{k:Nat}{t:TGs}{n:Nat}(M:X.calm=true)(h:PGs X es t)
  (R:(assignEach es X.env).length=n:=by rfl) (y:(assignEach es X.env).findIdx? (·.1)=none:=by rfl):PG X (.Tuple es k pos) (dG7 X.K n t):=by
 refine⟨?_⟩;intro g s σ H v u Q I r z;obtain⟨a,xs,U,D,N,z⟩:=z;subst U;cases r;obtain⟨its,m,F,P⟩:=I.tuple D;refine assign_Tuple_tuple (I.ok.hd M) F (by simp[R,<- N,m.length]) y λJ B=>?_
 have Y:Inv X g σ H {s with heap:=J}:=I.kept (t':=s.toks) λb o e=>B b o (Ab9 (Ab3 e)) e
 exact h g _ σ H xs _ Q Y (by simpa using m) z
def dW0 (to ti:TE)(t:dP8):TG:=λv σ H Q=>to σ H λo H1=>ti σ H1 λi H2=>t o i v H2 λH3=>Q σ H3
theorem bK4 {o i:Expr}{to ti:TE}{t:dP8}(ho:PE X o to)(hi:PE X i ti)(M:eD6 X t)
  (J:∀v,assign (.Subscript o i pos) X.env v=(do
   let ov <- holding [v] (eval o X.env)
   let iv <- holding [v,ov] (eval i X.env)
   standAt pos
   holding [v,ov,iv] (setItem ov iv v)
   release [v,ov,iv] []):=by intro _;rfl):PG X (.Subscript o i pos) (dW0 to ti t):=by
 refine⟨?_⟩;intro e s σ H v u Q I r h;rw[J];refine Aa (Bp (thn (ho e s σ H _ I h) λov P ⟨x,z,m,F,N⟩=>?_))
 refine Aa (Bp (thn (hi e P σ z _ m N) λiv s2 ⟨y,g,Y,B,R⟩=>?_))
 refine Aa (wpAny_standAt (Aa (Bp (thn (M e s2 σ g x y v ov iv u _ Y F B r R) λ_ s3 ⟨k,U,D⟩=>?_))))
 exact wpAny_release ⟨σ,k,U,D⟩
def bB0 (te:TE)(g:TG):TS:=λD σ H=>te σ H λx H1=>g x σ H1 D.nx
theorem aX1 {tg e:Expr}{te:TE}{g:TG}(k:PE X e te)(hg:PG X tg g)(m:swapsWithSole [tg] e pos.line X.env=pure false:=by rfl)(Y:swappedStores [tg] e X.env=pure none:=by rfl)
  (h1:(assignEach [tg] X.env).map (·.2)=[assign tg X.env]:=by rfl):PS X (.Assign [tg] e pos) (bB0 te g):=by
 refine⟨?_⟩;intro y s σ H D I h;refine wpAny_Assign_stores (thn (k y s σ H _ I h) λv M ⟨x,z,r,J,U⟩=>?_) m Y
 rw[h1];exact thn (hg y M σ z x v _ r J U) λ_ N q=>q
theorem C0 {i:Nat}{x:Str}{e:Expr}{te:TE}{pos':Pos}(m:X.N.Nodup)(hi:X.N[i]? = some x)(M:Loc X.env.scope x)(Y:PE X e te)(J:swapsWith e (some (.Name x pos')) pos.line X.env=pure false:=by rfl)(U:X.fn x=true\/X.env.scope.names.lookup x=some .local:=by first | exact .inl rfl | exact .inr rfl | assumption) :
  PS X (.Assign [.Name x pos'] e pos) (bB0 te (V6 i)):=by
 refine⟨?_⟩;intro k s σ H D I h;refine wpAny_Assign_Name (thn (Y k s σ H _ I h) λv F ⟨y,z,r,Q,R⟩=>?_) J
 exact aV8 r m hi M Q (λB g=>⟨_,z,g,R⟩) U
def dU5 (i:Nat)(te:TE)(ti:TIp):TS:=λD σ H=>∃x,σ[i]? = some (some x)/\te σ H λy H1=>ti x y H1 λz H2=>D.nx (σ.set i (some z)) H2
theorem bJ1 {i:Nat}{x:Str}{e:Expr}{te:TE}{op:Operator}{ti:TIp}{pos':Pos}(hN:X.N.Nodup)(hi:X.N[i]? = some x)(U:Loc X.env.scope x)(he:PE X e te)(ho:PIp X op ti)(hf:X.fn x=true\/X.env.scope.names.lookup x=some .local:=by first | exact .inl rfl | exact .inr rfl | assumption) :
  PS X (.AugAssign (.Name x pos') op e pos) (dU5 i te ti):=by
 refine⟨?_⟩;intro Y s σ H D I h;obtain⟨v,e1,h⟩:=h;obtain⟨m,hn,hl⟩:=I.loc;have J:Vis X.env.scope x:=by rcases U with k | k;exact .inl k;exact .inr (.inl k)
 obtain⟨u,r,l⟩:=hl i x v hi e1 J;refine wpAny_AugAssign_Name ?_;have M:wpAny (model X.prog X.w) X.A (eval e X.env) (λw s₂=>wpAny (model X.prog X.w) X.A (inplaceOp op u w) (λr s₃=>wpAny (model X.prog X.w) X.A (storeName X.env x r) (λ_=>SP X Y D .next) X.xe s₃) X.xe s₂) X.xe s:=by
  refine thn (he Y s σ H _ I h) λw s1 ⟨y,R,F,r1,q1⟩=>?_
  refine thn (ho Y s1 σ R v y u w _ F r r1 q1) λz s2 ⟨zv,Q,B,r2,q2⟩=>?_
  exact aV8 B hN hi U r2 (λs3 P=>⟨_,Q,P,q2⟩) hf
 rcases l with⟨hk,hm⟩ | ⟨hk,c,hc,g⟩
 .exact wpAny_loadName_local I.ok.kind hk hn hm M
 .rcases hk with hk | hk
  .exact wpAny_loadName_cell I.ok.kind hk hc g M
  .rcases U with k | k
   .have:X.env.scope.names.lookup x=some .free:=hk
    rw[k]at this;cases this
   .have:X.env.scope.names.lookup x=some .free:=hk
    rw[k]at this;cases this
def ipI (f:Int->Int->Int):TIp:=λx y H Q=>∃i j,x=.int i/\y=.int j/\Q (.int (f i j)) H
theorem cV3:PIp X .Add (ipI λi j=>i+j):=by
 intro k s σ H x y v u Q I r g h;obtain⟨i,j,e,z,q⟩:=h;subst e;subst z;obtain⟨t,rfl⟩:=r;obtain⟨m,rfl⟩:=g;exact iadd_int ⟨.int _,H,I.tok _,⟨_,rfl⟩,q⟩
def dB0 (c:TT)(tb:TS):TS:=λD σ H=>∃W:Nat->St->Hp->Prop,(∃m,W m σ H)/\∀m σ H,W m σ H ->
 c σ H λb H1=>if b=true then ∃N:St->Hp->Prop,(∀σ' H',N σ' H'->∃m',m'<m/\W m' σ' H')/\tb {D with nx:=N,ct:=N,bk:=D.nx} σ H1 else D.nx σ H1
theorem bA1 {c:Expr}{body:List Stmt}{tc:TT}{tb:TS}(hp:PassesOwn (model X.prog X.w) X.A X.env X.xe)(hc:PT X c tc)(hb:PSs X body tb):PS X (.While c body [] pos) (dB0 tc tb):=by
 refine⟨?_⟩;intro Y s σ H D I h;obtain⟨W,⟨m0,w0⟩,y⟩:=h;refine wpAny_While (codeAny_whileLoop (λn s'=>∃σ' Q,Inv X Y σ' Q s'/\W n σ' Q) ?_ m0 ⟨σ,H,I,w0⟩)
 rintro n s1 ⟨k,F,I1,w1⟩;refine wpAny_passesOwn hp (thn (hc Y s1 k F _ I1 (y n k F w1)) λb s2 ⟨B,P,r⟩=>?_)
 cases b with
 | true=>
  obtain⟨N,hN,r⟩:=r;rw[Ae rfl];refine wpAny_passesOwn hp (thn (hb Y s2 k B _ P r) λf s3 g=>?_)
  cases f with
  | next=>
   obtain⟨z,e,m,M⟩:=g;obtain⟨J,U,R⟩:=hN z e M;exact⟨J,U,z,e,m,R⟩
  | cont=>
   obtain⟨z,e,m,M⟩:=g;obtain⟨J,U,R⟩:=hN z e M;exact⟨J,U,z,e,m,R⟩
  | brk=>exact g
  | ret v=>exact g
 | false=>
  rw[Ac Al];exact wpAny_execs_nil ⟨k,B,P,r⟩
end
structure It where
 go:Nat->Hp->Prop
 yld:Nat->Hp->V->Hp->Prop
 stop:Nat->Hp->Prop
def FpOk (X:Cx)(aA:Dz)(H:Hp)(b:Addr):Prop:=
 H b=none/\b≠X.env.locals/\b∉X.fs/\(b∈X.ex\/X.s₀.heap.objs.size<=b)/\(∀x c,X.env.cells.lookup x=some c->c≠b)/\∀p∈X.pn++aA,p.1≠b
theorem Inv.fpOk {X:Cx}{aA:Dz}{σ:St}{H H':Hp}{s:Shared}{b:Addr}(I:Inv X aA σ H s)(y:s.heap.objs.size<=b)(r:H' b=none):FpOk X aA H' b:=by
 refine⟨r,Nat.ne_of_gt (Ab8 I.lt y),I.nofs y,.inr (Bf I.sz y),λx c e z=>?_,λp hp z=>?_⟩
 .obtain⟨v,q⟩:=I.cell x c e;exact absurd (Ab8 q.lt (by rw[z];exact y)) (Ad9 _)
 .exact absurd (Ab8 (Ab3 (I.pin p hp).1) (by rw[z];exact y)) (Ad9 _)
structure bH2 (P:Program)(w:World)(K:Frag)(tg:Expr)(J:It)(fp:AK)(it:Addr)(tn:Nat->Heap->Prop):Prop where
 mem:it∈fp
 obj:∀i h,tn i h->∀b∈fp,∃o,h.get? b=some o/\∀v,o.data≠.cell v
 keep:∀i h h',tn i h->(∀b∈fp,∀o,h.get? b=some o->h'.get? b=some o)->tn i h'
 item:∀(X:Cx),X.prog=P->X.w=w->X.K=K->X.calm=true->∀(i:Nat) (aA:Dz) (s:Shared) (σ:St) (H:Hp) (E:Dy),Inv X aA σ H s->(∀b∈fp,FpOk X aA H b)->tn i s.heap->J.go i H ->
  wpAny (model P w) X.A (pyNext (.ref it)) (λr s1=>∃u,r=some u /\
   wpAny (model P w) X.A (letOwnedTupleGo tg (.ref it) u) (λ_ s2=>∃x H',Inv X aA σ H' s2/\RelV x u/\J.yld i H x H'/\tn (i+1) s2.heap/\∀b∈fp,H' b=none) E s1) E s
 done:∀(X:Cx),X.prog=P->X.w=w->X.K=K->X.calm=true->∀(i:Nat) (aA:Dz) (s:Shared) (σ:St) (H:Hp) (E:Dy),Inv X aA σ H s->(∀b∈fp,FpOk X aA H b)->tn i s.heap->J.stop i H ->
  wpAny (model P w) X.A (pyNext (.ref it)) (λr s1=>r=none/\Inv X aA σ H s1) E s
 self:∀(A:Around) (i:Nat) (s:Shared) (Q:Dy) (E:Dy),tn i s.heap->Q (.ref it) s->wpAny (model P w) A (pyIter (.ref it)) Q E s
abbrev TI:=St->Hp->(It->Hp->Prop)->Prop
def PIE (X:Cx)(aA:Dz)(σ:St)(tg:Expr)(R:It->Hp->Prop)(itv:Value)(s2:Shared):Prop:=
 ∃(it:Addr) (fp:AK) (tn:Nat->Heap->Prop) (J:It) (H':Hp),itv=.ref it/\Inv X aA σ H' s2/\bH2 X.prog X.w X.K tg J fp it tn/\tn 0 s2.heap/\(∀b∈fp,FpOk X aA H' b)/\R J H'
structure PI (X:Cx)(tg iter:Expr)(wi:TI):Prop where
 mk ::
 run :
  ∀(aA:Dz) (s:Shared) (σ:St) (H:Hp) (R:It->Hp->Prop),Inv X aA σ H s->wi σ H R ->
   wpAny (model X.prog X.w) X.A (eval iter X.env) (λv s1=>wpAny (model X.prog X.w) X.A (pyIter v) (PIE X aA σ tg R) X.xe s1) X.xe s
instance {X:Cx} {tg iter:Expr} {wi:TI}:CoeFun (PI X tg iter wi) λ_=>
 (∀(aA:Dz) (s:Shared) (σ:St) (H:Hp) (R:It->Hp->Prop),Inv X aA σ H s->wi σ H R ->
  wpAny (model X.prog X.w) X.A (eval iter X.env) (λv s1=>wpAny (model X.prog X.w) X.A (pyIter v) (PIE X aA σ tg R) X.xe s1) X.xe s):=⟨PI.run⟩
theorem cE9 {M:Model}{A:Around}{E:Dy}{s:Shared}{tg:Expr}{it:Addr}{u:Value}{o:Obj}{n:String}{vs:AH}{Q:Unit->Shared->Prop}(ho:s.heap.get? it=some o)(y:o.cls=.type n)(z:o.data=.fields vs)
  (r:["enumerate", "zip", "dict_itemiterator", "dict_reverseitemiterator", "odict_iterator", "itertools.zip_longest", "itertools.pairwise"].contains n=false) (e:Q () s):wpAny M A (letOwnedTupleGo tg (.ref it) u) Q E s:=by
 unfold letOwnedTupleGo;cases tg <;> first
  | exact Ab e
  | (cases u <;> first
    | exact Ab e
    | (refine Aa (wpAny_load ho ?_)
       rw[y,z];show wpAny M A (if(["enumerate", "zip", "dict_itemiterator", "dict_reverseitemiterator", "odict_iterator", "itertools.zip_longest", "itertools.pairwise"].contains n&&vs[0]? == some (rawInt _))=true then _ else _) Q E s;rw[Ac (by intro h;rw[r,Bool.false_and]at h;cases h)]
       exact Ab e))
def Itl (K:Frag)(a:Addr):It:=
 ⟨λi H=>∃xs x,SqL K H a xs/\xs[i]? = some x,λi H x H'=>H'=H/\∀xs,SqL K H a xs->xs[i]? = some x,λi H=>∃xs,SqL K H a xs/\xs.length<=i⟩
def Itt (K:Frag)(a:Addr):It:=
 ⟨λi H=>∃xs x,SqT K H a xs/\xs[i]? = some x,λi H x H'=>H'=H/\∀xs,SqT K H a xs->xs[i]? = some x,λi H=>∃xs,SqT K H a xs/\xs.length<=i⟩
def Itr (lo:Int)(n:Nat):It:=⟨λi _=>i<n,λi H x H'=>H'=H/\x=.int (lo+i),λi _=>n<=i⟩
theorem cJ8 {P:Program}{w:World}{K:Frag}{tg:Expr}(a it:Addr):bH2 P w K tg (Itl K a) [it] it (λi h=>h.IsListIter it a i) where
 mem:=by simp
 obj:=λi h y b r=>by
  have e:b=it:=by simpa using r
  subst e;obtain⟨o,e,c,d⟩:=y;exact⟨o,e,λv z=>by rw[d]at z;cases z⟩
 keep:=λi h m y k=>y.at λo e=>k it (by simp) o e
 item:=by
  intro X D F Q hc i aA s σ H E I Y y hg;subst D F Q;obtain⟨xs,x,U,B⟩:=hg;obtain⟨its,rv,p,hz⟩:=I.list U;obtain⟨u,hu,ru⟩:=rv.get B;obtain⟨J,M,f2,f3,N,R⟩:=Y it (by simp)
  refine wpAny_pyNext_list_item y p.isList (x:=u) (by simpa using hu) λm g sb=>?_
  have I1:Inv X aA σ H {s with heap:=m}:=I.turned (t':=s.toks) (λb o r e=>(sb.2 b r).trans e) J M f3 N R
  obtain⟨o,e,c,d⟩:=id g;exact⟨u,rfl,cE9 (s:={s with heap:=m}) e c d (by decide) ⟨x,H,I1,ru,⟨rfl,λys hy=>by rw[I.list_inj hy U];exact B⟩,g,λb r=>(Y b r).1⟩⟩
 done:=by
  intro X D F Q hc i aA s σ H E I Y y hg;subst D F Q;obtain⟨xs,U,B⟩:=hg;obtain⟨its,rv,p,hz⟩:=I.list U;obtain⟨J,M,f2,f3,N,R⟩:=Y it (by simp)
  have hl:=rv.length
  exact wpAny_pyNext_list_end (I.ok.hd hc) y p.isList (by simp;lia) λm eb=>⟨rfl,I.turned (t':=s.toks) (λb o r e=>eb b o r e) J M f3 N R⟩
 self:=λ_ _ _ _ _ y h=>wpAny_pyIter_listiter y h
theorem bT7 {P:Program}{w:World}{K:Frag}{tg:Expr}(a it:Addr):bH2 P w K tg (Itt K a) [it] it (λi h=>h.IsTupleIter it a i) where
 mem:=by simp
 obj:=λi h y b r=>by
  have e:b=it:=by simpa using r
  subst e;obtain⟨o,e,c,d⟩:=y;exact⟨o,e,λv z=>by rw[d]at z;cases z⟩
 keep:=λi h m y k=>y.at λo e=>k it (by simp) o e
 item:=by
  intro X D F Q hc i aA s σ H E I Y y hg;subst D F Q;obtain⟨xs,x,U,B⟩:=hg;obtain⟨its,rv,p,hz⟩:=I.tuple U;obtain⟨u,hu,ru⟩:=rv.get B;obtain⟨J,M,f2,f3,N,R⟩:=Y it (by simp)
  refine wpAny_pyNext_tuple_item y (show s.heap.IsTuple a its.toArray from p) (x:=u) (by simpa using hu) λm g sb=>?_
  have I1:Inv X aA σ H {s with heap:=m}:=I.turned (t':=s.toks) (λb o r e=>(sb.2 b r).trans e) J M f3 N R
  obtain⟨o,e,c,d⟩:=id g;exact⟨u,rfl,cE9 (s:={s with heap:=m}) e c d (by decide) ⟨x,H,I1,ru,⟨rfl,λys hy=>by rw[I.tuple_inj hy U];exact B⟩,g,λb r=>(Y b r).1⟩⟩
 done:=by
  intro X D F Q hc i aA s σ H E I Y y hg;subst D F Q;obtain⟨xs,U,B⟩:=hg;obtain⟨its,rv,p,hz⟩:=I.tuple U;obtain⟨J,M,f2,f3,N,R⟩:=Y it (by simp)
  have hl:=rv.length
  exact wpAny_pyNext_tuple_end (I.ok.hd hc) y (show s.heap.IsTuple a its.toArray from p) (by simp;lia) λm eb=>⟨rfl,I.turned (t':=s.toks) (λb o r e=>eb b o r e) J M f3 N R⟩
 self:=λ_ _ _ _ _ y h=>wpAny_pyIter_tupleiter y h
theorem bX4 {P:Program}{w:World}{K:Frag}{tg:Expr}(it:Addr)(lo:Int)(n:Nat):bH2 P w K tg (Itr lo n) [it] it (λi h=>IsRangeIter h it (lo+(i:Nat)*1) ((n:Int)-(i:Nat)) 1) where
 mem:=by simp
 obj:=λi h y b r=>by
  have e:b=it:=by simpa using r
  subst e;exact⟨_,y,λv z=>by
   have z':Data.fields _=Data.cell v:=z
   cases z'⟩
 keep:=λi h m y k=>k it (by simp) _ y
 item:=by
  intro X Q F R D i B s σ H E I Y y hg;subst Q F R;obtain⟨U,J,f2,f3,M,N⟩:=Y it (by simp)
  have W:=Walks.range (prog:=X.prog) (w:=X.w) (I.ok.hd D) it lo 1 n
  refine W.item i s _ _ hg y λv m tk hv g kk=>?_
  obtain⟨t,rfl⟩:=hv;have I1:Inv X B σ H {s with heap:=m,toks:=tk}:=I.turned (λb o r e=>kk b o (by simpa using r) e) U J f3 M N
  refine⟨_,rfl,cE9 (s:={s with heap:=m,toks:=tk}) (n := "range_iterator") g rfl rfl (by decide) ⟨.int (lo+i),H,I1,⟨t,?_⟩,⟨rfl,rfl⟩,g,λb r=>(Y b r).1⟩⟩
  rw[Int.mul_one]
 done:=by
  intro X Q F R D i B s σ H E I Y y hg;subst Q F R;obtain⟨U,J,f2,f3,M,N⟩:=Y it (by simp)
  exact wpAny_pyNext_range_end (I.ok.hd D) y (by have:n<=i:=hg;lia) λm eb=>⟨rfl,I.turned (t':=s.toks) (λb o r e=>eb b o r e) U J f3 M N⟩
 self:=λ_ _ _ _ _ y h=>wpAny_pyIter_rangeiter y h
section
variable {X:Cx}{tg:Expr}
def dN0 (K:Frag)(tl:TE):TI:=λσ H R=>tl σ H λx H1=>∃a,x=.ref a/\(∃xs,SqL K H1 a xs)/\R (Itl K a) H1
def dY9 (K:Frag)(tl:TE):TI:=λσ H R=>tl σ H λx H1=>∃a,x=.ref a/\(∃xs,SqT K H1 a xs)/\R (Itt K a) H1
theorem P3 {l:Expr}{tl:TE}(m:PE X l tl):PI X tg l (dN0 X.K tl):=by
 refine⟨?_⟩;intro g s σ H R I h;refine thn (m g s σ H _ I h) λv z ⟨x,r,y,J,U⟩=>?_
 obtain⟨a,e,⟨xs,Y⟩,q⟩:=U;subst e;cases J;obtain⟨its,N,p,M⟩:=y.list Y;refine wpAny_pyIter_list p.isList ?_;refine⟨z.heap.objs.size,[z.heap.objs.size],_,_,r,rfl,y.kept (t':=z.toks) λb o e=>Aa6 _ e,cJ8 a _,⟨_,Ac3 _ rfl,rfl,rfl⟩,λb k=>?_,q⟩
 have e:b=z.heap.objs.size:=by simpa using k
 subst e;exact y.fpOk (Aa7 _) (y.hok.fresh (Aa7 _))
theorem aJ5 {l:Expr}{tl:TE}(m:PE X l tl):PI X tg l (dY9 X.K tl):=by
 refine⟨?_⟩;intro g s σ H R I h;refine thn (m g s σ H _ I h) λv y ⟨x,r,z,J,U⟩=>?_
 obtain⟨a,e,⟨xs,Y⟩,q⟩:=U;subst e;cases J;obtain⟨its,N,p,M⟩:=z.tuple Y;refine wpAny_pyIter_tuple (show y.heap.IsTuple a its.toArray from p) ?_
 refine⟨y.heap.objs.size,[y.heap.objs.size],_,_,r,rfl,z.kept (t':=y.toks) λb o e=>Aa6 _ e,bT7 a _,⟨_,Ac3 _ rfl,rfl,rfl⟩,λb k=>?_,q⟩
 have e:b=y.heap.objs.size:=by simpa using k
 subst e;exact z.fpOk (Aa7 _) (z.hok.fresh (Aa7 _))
theorem bR6 {aA:Dz}{σ:St}{H:Hp}{s:Shared}{R:It->Hp->Prop}{E:Dy}{lo hi:Int}{t u v:Tok}{tk:Nat}(I:Inv X aA σ H s)(h1 : -(2^62)<=lo)(g:lo<2^62)(k : -(2^62)<=hi)(m:hi<2^62)
  (q:R (Itr lo (hi-lo).toNat) H):wpAny (model X.prog X.w) X.A (pyIter (.ref s.heap.objs.size)) (PIE X aA σ tg R) E {s with heap:=s.heap.push {cls:=.type "range",data:=.fields #[.int lo t,.int hi u,.int 1 v]},toks:=tk}:=by
 refine wpAny_pyIter_range (IsRange.new ..) (small_one h1 g k m) ?_;have y:Inv X aA σ H {s with heap:=s.heap.push {cls:=.type "range",data:=.fields #[.int lo t,.int hi u,.int 1 v]},toks:=tk}:=I.kept λb o e=>Aa6 _ e
 refine⟨(s.heap.push {cls:=.type "range",data:=.fields #[.int lo t,.int hi u,.int 1 v]}).objs.size,[(s.heap.push {cls:=.type "range",data:=.fields #[.int lo t,.int hi u,.int 1 v]}).objs.size],_,_,H,rfl,
  y.kept (t':=tk) λb o e=>Aa6 _ e,bX4 _ lo (hi-lo).toNat,?_,λb Y=>?_,q⟩
 .have z:lo+((0:Nat):Int)*1=lo:=by simp
  have r:(((hi-lo).toNat:Nat):Int)-((0:Nat):Int)=Builtin.Range.rangeSize lo hi 1:=by rw[rangeSize_one];split <;> lia
  show IsRangeIter _ _ (lo+((0:Nat):Int)*1) ((((hi-lo).toNat:Nat):Int)-((0:Nat):Int)) 1
  rw[z,r];exact Ac3 _ rfl
 .have e:b=(s.heap.push {cls:=.type "range",data:=.fields #[.int lo t,.int hi u,.int 1 v]}).objs.size:=by simpa using Y
  subst e;exact y.fpOk (Aa7 _) (y.hok.fresh (Aa7 _))
def dO1 (ta:TA):TI:=λσ H R=>ta σ H λvs H1=>∃j:Int,vs=[.int j] /\ -(2^62)<=j/\j<2^62/\R (Itr 0 j.toNat) H1
def dK4 (ta:TA):TI:=λσ H R=>ta σ H λvs H1=>∃i j:Int,vs=[.int i,.int j]/\(-(2^62)<=i/\i<2^62 /\ -(2^62)<=j/\j<2^62)/\R (Itr i (j-i).toNat) H1
theorem G8 {a:Expr}{ta:TA}{p pos:Pos}(hg:Gl X "range")(m:X.mg "range" = none)(k:PA X [a] ta)(Y:starEach [a] X.env=[(false,eval a X.env)]:=by rfl):PI X tg (.Call (.Name "range" p) [a] [] pos) (dO1 ta):=by
 refine⟨?_⟩;intro g s σ H R I h;refine Call_ (R9 I hg m boot_range (An (thn (k pos g s σ H _ I h) λQ N ⟨vs,M,z,J,y⟩=>?_) Y rfl))
 obtain⟨j,e,y,U,q⟩:=y;subst e;cases J with
 | cons r rr=>
  cases rr
  obtain⟨t,rfl⟩:=r;exact call_range_1 (bR6 z (by lia) (by lia) y U (by simpa using q))
theorem cM0 {a b:Expr}{ta:TA}{p pos:Pos}(hg:Gl X "range")(Y:X.mg "range" = none)(m:PA X [a,b] ta)(U:starEach [a,b] X.env=[(false,eval a X.env),(false,eval b X.env)]:=by rfl)(y:starEach [b] X.env=[(false,eval b X.env)]:=by rfl) :
  PI X tg (.Call (.Name "range" p) [a,b] [] pos) (dK4 ta):=by
 refine⟨?_⟩;intro k s σ H R I h;refine Call_ (R9 I hg Y boot_range (An (thn (m pos k s σ H _ I h) λus B ⟨vs,F,g,D,z⟩=>?_) (by rw[U,y]) (by rw[y];rfl)))
 obtain⟨i,j,e,⟨z,J,M,N⟩,q⟩:=z;subst e;cases D with
 | cons r rr=>
  cases rr with
  | cons Q rr=>
   cases rr
   obtain⟨t,rfl⟩:=r;obtain⟨P,rfl⟩:=Q;exact call_range_2 (bR6 g z J M N q)
def eA9 (wi:TI)(g:TG)(tb:TS):TS:=λD σ H=>wi σ H λJ H1=>∃W:Nat->Nat->St->Hp->Prop,(∃m,W 0 m σ H1)/\∀i m σ H,W i m σ H ->
 (J.stop i H/\D.nx σ H)\/(J.go i H/\∃N:St->Hp->Prop,(∀σ' H',N σ' H'->∃m',m'<m/\W (i+1) m' σ' H')/\∀x H',J.yld i H x H'->g x σ H' λσ2 H2=>tb {D with nx:=N,ct:=N,bk:=D.nx} σ2 H2)
def y6 (fp:AK)(h:Heap):List (Addr×Obj):=fp.filterMap λb=>(h.get? b).map λo=>(b,o)
theorem aB2 {fp:AK}{h:Heap}{b:Addr}{o:Obj}(y:b∈fp)(e:h.get? b=some o):(b,o)∈y6 fp h:=List.mem_filterMap.mpr ⟨b,y,by rw[e];rfl⟩
theorem bE2 {fp:AK}{h:Heap}{p:Addr×Obj}(hp:p∈y6 fp h):p.1∈fp/\h.get? p.1=some p.2:=by
 obtain⟨b,y,e⟩:=List.mem_filterMap.mp hp;cases q:h.get? b with
 | none=>rw[q]at e;cases e
 | some o=>
  rw[q]at e;have e':(b,o)=p:=Ab4 e;subst e';exact⟨y,q⟩
theorem Inv.pinned {aA:Dz}{σ:St}{H:Hp}{s:Shared}{fp:AK}(I:Inv X aA σ H s)(m:∀b∈fp,FpOk X aA H b)(ho:∀b∈fp,∃o,s.heap.get? b=some o/\∀v,o.data≠.cell v):Inv X (aA++y6 fp s.heap) σ H s:=
 I.pins_of λp hp=>(Aa0.mp hp).elim (λz=>I.pin p (Ac1 _ z)) λz=>by
  obtain⟨y,e⟩:=bE2 z;obtain⟨r,g,k,_⟩:=m p.1 y;obtain⟨o,e',d⟩:=ho p.1 y;rw[e]at e';cases e';exact⟨e,r,g,k,d⟩
theorem Inv.unpinned {aA pl:Dz}{σ:St}{H:Hp}{s:Shared}(I:Inv X (aA++pl) σ H s):Inv X aA σ H s:=I.pins_of λp hp=>I.pin p (Ac1 _ (Aq _ hp))
theorem G5 {iter:Expr}{body:List Stmt}{wi:TI}{g:TG}{tb:TS}{pos:Pos}(hp:PassesOwn (model X.prog X.w) X.A X.env X.xe)(hc:X.calm=true)(hi:PI X tg iter wi)(hg:PG X tg g)(Y:PSs X body tb)
  (hs:∀x,foldedSetIterable iter X.env x=pure x:=by intro _;rfl):PS X (.For tg iter body [] pos) (eA9 wi g tb):=by
 refine⟨?_⟩;intro F s σ H D I h;refine wpAny_For (thn (hi F s σ H _ I h) λv s1 h1=>thn h1 λitv s2 h2=>?_) hs
 obtain⟨it,P,tn,J,H2,e,I2,T,st2,f2,W,⟨m0,w0⟩,turn⟩:=h2;subst e;have U:∀{R:Hp},(∀b∈P,R b=none)->∀b∈P,FpOk X F R b:=λhn b Y=>⟨hn b Y,(f2 b Y).2⟩
 refine codeAny_forLoop_any (λn s'=>∃i σ' R,Inv X F σ' R s'/\tn i s'.heap/\(∀b∈P,R b=none)/\W i n σ' R) ?_ m0 ⟨0,σ,H2,I2,st2,λb Y=>(f2 b Y).1,w0⟩
 rintro n s3 ⟨i,σ3,H3,I3,st3,fr3,w3⟩;rcases turn i n σ3 H3 w3 with⟨stop,qn⟩ | ⟨go,N,hN,step⟩
 .refine wpAny_passesOwn hp (thn (T.done X rfl rfl rfl hc i F s3 σ3 H3 X.xe I3 (U fr3) st3 stop) λr s4 ⟨hr,I4⟩=>?_)
  subst hr;exact wpAny_execs_nil ⟨σ3,H3,I4,qn⟩
 .refine wpAny_passesOwn hp (thn (T.item X rfl rfl rfl hc i F s3 σ3 H3 X.xe I3 (U fr3) st3 go) λr s4 ⟨u,hr,h4⟩=>?_)
  subst hr;refine wpAny_passesOwn hp (thn h4 λ_ s5 ⟨x,H5,I5,r5,y5,B,fr5⟩=>?_)
  have I5':=I5.pinned (U fr5) (T.obj _ _ B)
  refine wpAny_passesOwn hp (thn (hg _ s5 σ3 H5 x u _ I5' r5 (step x H5 y5)) λ_ s6 ⟨σ6,H6,I6,q6⟩=>?_)
  refine wpAny_passesOwn hp (thn (Y _ s6 σ6 H6 _ I6 q6) λf s7 Q=>?_)
  have k:∀{M:St} {y:Hp},Inv X (F++y6 P s5.heap) M y s7->N M y->∃m,m<n/\∃i σ' R,Inv X F σ' R s7/\tn i s7.heap/\(∀b∈P,R b=none)/\W i m σ' R:=λ{M y} z n7=>by
   obtain⟨m',hm,w7⟩:=hN M y n7;refine⟨m',hm,i+1,M,y,z.unpinned,T.keep _ _ _ B λb Y o e=>(z.pin (b,o) (Ac1 _ (Ac1 _ (aB2 Y e)))).1,λb Y=>?_,w7⟩
   obtain⟨o,e,d⟩:=T.obj _ _ B b Y;exact(z.pin (b,o) (Ac1 _ (Ac1 _ (aB2 Y e)))).2.1
  cases f with
  | next=>obtain⟨M,y,z,n7⟩:=Q;exact k z n7
  | cont=>obtain⟨M,y,z,n7⟩:=Q;exact k z n7
  | brk=>obtain⟨M,y,z,Q⟩:=Q;exact⟨M,y,z.unpinned,Q⟩
  | ret v=>obtain⟨x7,M,y,z,r7,Q⟩:=Q;exact⟨x7,M,y,z.unpinned,r7,Q⟩
end
abbrev R2:=V->V->Hp->VK->Prop
def OpR (X:Cx)(f:Value->Value->Sem Value)(r:R2):Prop:=
 ∀(aA:Dz) (s:Shared) (σ:St) (H:Hp) (x y:V) (v u:Value) (Q:VK),Inv X aA σ H s->RelV x v->RelV y u->r x y H Q ->
  wpAny (model X.prog X.w) X.A (f v u) (EP X aA σ Q) X.xe s
def UnR (X:Cx)(f:Value->Sem Value)(r:V->Hp->VK->Prop):Prop:=
 ∀(aA:Dz) (s:Shared) (σ:St) (H:Hp) (x:V) (v:Value) (Q:VK),Inv X aA σ H s->RelV x v->r x H Q ->
  wpAny (model X.prog X.w) X.A (f v) (EP X aA σ Q) X.xe s
def T0 (X:Cx)(f:Value)(r:List V->Hp->VK->Prop):Prop:=
 ∀(aA:Dz) (s:Shared) (σ:St) (H:Hp) (xs:List V) (us:AF) (Q:VK),Inv X aA σ H s->Vals xs us->r xs H Q ->
  wpAny (model X.prog X.w) X.A (call f us) (EP X aA σ Q) X.xe s
def tOp (r:R2)(ta tb:TE):TE:=λσ H Q=>ta σ H λx H1=>tb σ H1 λy H2=>r x y H2 Q
def tUn (r:V->Hp->VK->Prop)(ta:TE):TE:=λσ H Q=>ta σ H λx H1=>r x H1 Q
def rI (C:Int->Int->Prop)(g:Int->Int->V):R2:=λx y H Q=>∃i j,x=.int i/\y=.int j/\C i j/\Q (g i j) H
def rI0 (g:Int->Int->V):R2:=λx y H Q=>∃i j,x=.int i/\y=.int j/\Q (g i j) H
def rU (g:Int->V):V->Hp->VK->Prop:=λx H Q=>∃i,x=.int i/\Q (g i) H
section
variable {X:Cx}{a b c:Expr}{ta tb tc:TE}{pos:Pos}
theorem dR9 (r:PE X a ta)(g:PE X b tb){aA:Dz}{s:Shared}{σ:St}{H:Hp}{R:V->V->Hp->Prop}(I:Inv X aA σ H s)
  (h:ta σ H λx H1=>tb σ H1 λy H2=>R x y H2) {Q:Dy} {f:Value->Value->Sem Value}
  (k:∀v u s2 x y H2,Inv X aA σ H2 s2->RelV x v->RelV y u->R x y H2->wpAny (model X.prog X.w) X.A (f v u) Q X.xe s2) :
  wpAny (model X.prog X.w) X.A (eval a X.env) (λv s₁=>wpAny (model X.prog X.w) X.A (eval b X.env) (λu s₂=>wpAny (model X.prog X.w) X.A (f v u) Q X.xe s₂) X.xe s₁) X.xe s:=by
 refine thn (r aA s σ H _ I h) λv M ⟨x,H1,e,U,m⟩=>?_
 refine thn (g aA M σ H1 _ e m) λu s2 ⟨y,H2,z,J,Y⟩=>?_
 exact k v u s2 x y H2 z U J Y
theorem B2 {op:Operator}{r:R2}(ho:OpR X (binaryOp op) r)(k:PE X a ta)(m:PE X b tb):PE X (.BinOp a op b pos) (tOp r ta tb):=by
 refine⟨?_⟩;intro g s σ H Q I h;exact wpAny_BinOp (dR9 k m I h λv u J x y e z Y U q=>ho g J σ e x y v u Q z Y U q)
theorem aH3 {op:UnaryOp}{r:V->Hp->VK->Prop}(ho:UnR X (unaryOp op) r)(g:PE X a ta):PE X (.UnaryOp op a pos) (tUn r ta):=by
 refine⟨?_⟩;intro e s σ H Q I h;exact UnaryOp_ (thn (g e s σ H _ I h) λv Y ⟨x,y,z,m,k⟩=>ho e Y σ y x v Q z m k)
theorem opI {f:Value->Value->Sem Value}{C:Int->Int->Prop}{g:Int->Int->Int}
  (e:∀(i j:Int) (t u:Tok) (s:Shared) (Q:Dy) (E:Dy),C i j->Q (.int (g i j) s.toks) {s with toks:=s.toks+1}->wpAny (model X.prog X.w) X.A (f (.int i t) (.int j u)) Q E s) :
  OpR X f (rI C λi j=>.int (g i j)):=by
 intro Y s σ H x y v u Q I r k h;obtain⟨i,j,rfl,rfl,z,q⟩:=h;obtain⟨t,rfl⟩:=r;obtain⟨m,rfl⟩:=k;exact e i j t m s _ _ z ⟨.int (g i j),H,I.tok _,⟨_,rfl⟩,q⟩
theorem eH6 {f:Value->Value->Sem Value}{g:Int->Int->Int}
  (e:∀(i j:Int) (t u:Tok) (s:Shared) (Q:Dy) (E:Dy),Q (.int (g i j) s.toks) {s with toks:=s.toks+1}->wpAny (model X.prog X.w) X.A (f (.int i t) (.int j u)) Q E s) :
  OpR X f (rI0 λi j=>.int (g i j)):=by
 intro m s σ H x y v u Q I z r h;obtain⟨i,j,rfl,rfl,q⟩:=h;obtain⟨t,rfl⟩:=z;obtain⟨k,rfl⟩:=r;exact e i j t k s _ _ ⟨.int (g i j),H,I.tok _,⟨_,rfl⟩,q⟩
theorem dS0 {f:Value->Value->Sem Value}{g:Int->Int->Bool}
  (e:∀(i j:Int) (t u:Tok) (s:Shared) (Q:Dy) (E:Dy),Q (.bool (g i j)) s->wpAny (model X.prog X.w) X.A (f (.int i t) (.int j u)) Q E s) :
  OpR X f (rI0 λi j=>.bl (g i j)):=by
 intro m s σ H x y v u Q I z r h;obtain⟨i,j,rfl,rfl,q⟩:=h;obtain⟨t,rfl⟩:=z;obtain⟨k,rfl⟩:=r;exact e i j t k s _ _ ⟨.bl (g i j),H,I,rfl,q⟩
def eK0 (i j:Int):Prop:=0<j/\j<1073741824
theorem G0:OpR X (binaryOp .Add) (rI0 λi j=>.int (i+j)):=eH6 λ_ _ _ _ _ _ _ q=>add_int q
theorem L4:OpR X (binaryOp .Sub) (rI0 λi j=>.int (i-j)):=eH6 λ_ _ _ _ _ _ _ q=>sub_int q
theorem aL0:OpR X (binaryOp .FloorDiv) (rI eK0 λi j=>.int (i / j)):=opI λi j _ _ _ _ _ e q=>by
 have h1:(0:Int)<j:=e.1
 have y:j<1073741824:=e.2
 exact floordiv_int (by lia) (by rw[Int.fdiv_eq_ediv_of_nonneg i (by lia)];exact q) (.inl (PyProof.noPylong_small (by lia)))
theorem W6:OpR X (binaryOp .Mod) (rI (λ_ j=>0<j) λi j=>.int (i % j)):=opI λi j _ _ _ _ _ e q=>by
 have h1:(0:Int)<j:=e
 exact mod_int' (by lia) (by rw[Int.fmod_eq_emod_of_nonneg i (by lia)];exact q)
theorem unI {f:Value->Sem Value}{g:Int->Int}
  (e:∀(i:Int) (t:Tok) (s:Shared) (Q:Dy) (E:Dy),Q (.int (g i) s.toks) {s with toks:=s.toks+1}->wpAny (model X.prog X.w) X.A (f (.int i t)) Q E s) :
  UnR X f (rU λi=>.int (g i)):=by
 intro z s σ H x v Q I y h;obtain⟨i,rfl,q⟩:=h;obtain⟨t,rfl⟩:=y;exact e i t s _ _ ⟨.int (g i),H,I.tok _,⟨_,rfl⟩,q⟩
theorem m5:UnR X (unaryOp .USub) (rU λi=>.int (-i)):=unI λ_ _ _ _ _ q=>neg_int q
end
def eC3:V->V->Bool
 | .non,.non=>true | .non,.int _=>true | .int _,.non=>true | .non,.bl _=>true | .bl _,.non=>true | .non,.str _=>true | .str _,.non=>true
 | .int _,.int _=>true | .bl _,.bl _=>true | .str _,.str _=>true | .byt _,.byt _=>true
 | .int _,.str _=>true | .str _,.int _=>true | .bl _,.str _=>true | .str _,.bl _=>true
 | _,_=>false
def rEq:R2:=λx y H Q=>eC3 x y=true/\Q (.bl (decide (x=y))) H
def rNe:R2:=λx y H Q=>eC3 x y=true/\Q (.bl (!decide (x=y))) H
theorem cD7 {i j:Int}:decide (V.int i=V.int j)=(i==j):=by
 rw[Di]
 simp
theorem cZ4 {i j:Bool}:decide (V.bl i=V.bl j)=(i==j):=by
 rw[Di]
 simp
theorem cD0 {i j:Str}:decide (V.str i=V.str j)=(i==j):=by
 rw[Di]
 simp
theorem cF1 {i j:Array UInt8}:decide (V.byt i=V.byt j)=(i.toList==j.toList):=by
 rw[Di];cases i;cases j
 simp
section
variable {X:Cx}{a b c:Expr}{ta tb tc:TE}{pos:Pos}
theorem F7 {aA:Dz}{σ:St}{H:Hp}{s:Shared}{Q:VK}{k k':Bool}(I:Inv X aA σ H s)(q:Q (.bl k) H)(e:k=k'):EP X aA σ Q (.bool k') s:=by
 subst e;exact⟨.bl k,H,I,rfl,q⟩
theorem i5:OpR X (compareOp .Eq) rEq:=by
 intro k s σ H x y v u Q I g e h;obtain⟨r,q⟩:=h;cases x with
 | non=>
  cases g
  cases y with
  | non=>cases e;exact PySem.EqNone.eq_none_none (F7 I q (by simp))
  | bl j=>cases e;exact PySem.EqNone.eq_none_bool (F7 I q (by simp))
  | int j=>obtain⟨z,rfl⟩:=e;exact PySem.EqNone.eq_none_int (F7 I q (by simp))
  | str j=>obtain⟨z,rfl⟩:=e;exact PySem.EqNone.eq_none_str (F7 I q (by simp))
  | _=>exact absurd (show false=true from r) Al
 | bl i=>
  cases g
  cases y with
  | non=>cases e;exact PySem.EqNone.eq_bool_none (F7 I q (by simp))
  | bl j=>cases e;exact eq_bool (F7 I q cZ4)
  | str j=>obtain⟨z,rfl⟩:=e;exact PySem.EqMixed.eq_bool_str (F7 I q (by simp))
  | _=>exact absurd (show false=true from r) Al
 | int i=>
  obtain⟨t,rfl⟩:=g;cases y with
  | non=>cases e;exact PySem.EqNone.eq_int_none (F7 I q (by simp))
  | int j=>obtain⟨z,rfl⟩:=e;exact eq_int (F7 I q cD7)
  | str j=>obtain⟨z,rfl⟩:=e;exact PySem.EqMixed.eq_int_str (F7 I q (by simp))
  | _=>exact absurd (show false=true from r) Al
 | str i=>
  obtain⟨t,rfl⟩:=g;cases y with
  | non=>cases e;exact PySem.EqNone.eq_str_none (F7 I q (by simp))
  | bl j=>cases e;exact PySem.EqMixed.eq_str_bool (F7 I q (by simp))
  | int j=>obtain⟨z,rfl⟩:=e;exact PySem.EqMixed.eq_str_int (F7 I q (by simp))
  | str j=>obtain⟨z,rfl⟩:=e;exact eq_str (F7 I q cD0)
  | _=>exact absurd (show false=true from r) Al
 | byt i=>
  obtain⟨t,rfl⟩:=g;cases y with
  | byt j=>obtain⟨z,rfl⟩:=e;exact PySem.W.eq_bytes (F7 I q cF1)
  | _=>exact absurd (show false=true from r) Al
 | _=>cases y <;> exact absurd (show false=true from r) Al
theorem aH0:OpR X (compareOp .NotEq) rNe:=by
 intro k s σ H x y v u Q I g e h;obtain⟨r,q⟩:=h;cases x with
 | non=>
  cases g
  cases y with
  | non=>cases e;exact PySem.EqNone.ne_none_none (F7 I q (by simp))
  | bl j=>cases e;exact PySem.EqNone.ne_none_bool (F7 I q (by simp))
  | int j=>obtain⟨z,rfl⟩:=e;exact PySem.EqNone.ne_none_int (F7 I q (by simp))
  | str j=>obtain⟨z,rfl⟩:=e;exact PySem.EqNone.ne_none_str (F7 I q (by simp))
  | _=>exact absurd (show false=true from r) Al
 | bl i=>
  cases g
  cases y with
  | non=>cases e;exact PySem.EqNone.ne_bool_none (F7 I q (by simp))
  | bl j=>cases e;exact ne_bool (F7 I q (congrArg not cZ4))
  | str j=>obtain⟨z,rfl⟩:=e;exact PySem.EqMixed.ne_bool_str (F7 I q (by simp))
  | _=>exact absurd (show false=true from r) Al
 | int i=>
  obtain⟨t,rfl⟩:=g;cases y with
  | non=>cases e;exact PySem.EqNone.ne_int_none (F7 I q (by simp))
  | int j=>obtain⟨z,rfl⟩:=e;exact ne_int (F7 I q (congrArg not cD7))
  | str j=>obtain⟨z,rfl⟩:=e;exact PySem.EqMixed.ne_int_str (F7 I q (by simp))
  | _=>exact absurd (show false=true from r) Al
 | str i=>
  obtain⟨t,rfl⟩:=g;cases y with
  | non=>cases e;exact PySem.EqNone.ne_str_none (F7 I q (by simp))
  | bl j=>cases e;exact PySem.EqMixed.ne_str_bool (F7 I q (by simp))
  | int j=>obtain⟨z,rfl⟩:=e;exact PySem.EqMixed.ne_str_int (F7 I q (by simp))
  | str j=>obtain⟨z,rfl⟩:=e;exact ne_str (F7 I q (congrArg not cD0))
  | _=>exact absurd (show false=true from r) Al
 | byt i=>
  obtain⟨t,rfl⟩:=g;cases y with
  | byt j=>obtain⟨z,rfl⟩:=e;exact PySem.W.ne_bytes (F7 I q (congrArg not cF1))
  | _=>exact absurd (show false=true from r) Al
 | _=>cases y <;> exact absurd (show false=true from r) Al
theorem aH2:OpR X (compareOp .Lt) (rI0 λi j=>.bl (decide (i<j))):=dS0 λ_ _ _ _ _ _ _ q=>lt_int q
theorem t5:OpR X (compareOp .Gt) (rI0 λi j=>.bl (decide (j<i))):=dS0 λ_ _ _ _ _ _ _ q=>gt_int q
theorem cX3:OpR X (compareOp .GtE) (rI0 λi j=>.bl (decide (j<=i))):=dS0 λ_ _ _ _ _ _ _ q=>ge_int q
theorem cV1:OpR X (compareOp .Is) (λx y H Q=>y=.non/\Q (.bl (decide (x=.non))) H):=by
 intro r s σ H x y v u Q I e z h;obtain⟨rfl,q⟩:=h;cases z;refine is_none_gen (F7 I q ?_);cases x <;> first
  | (cases e;rfl)
  | (obtain⟨t,rfl⟩:=e;rfl)
theorem cA7:OpR X (compareOp .IsNot) (λx y H Q=>y=.non/\Q (.bl (!decide (x=.non))) H):=by
 intro r s σ H x y v u Q I e z h;obtain⟨rfl,q⟩:=h;cases z;refine isnot_none_gen (F7 I q ?_);cases x <;> first
  | (cases e;rfl)
  | (obtain⟨t,rfl⟩:=e;rfl)
theorem C7 (b:Expr){op:CmpOp}(h:op≠.In:=by decide)(z:op≠.NotIn:=by decide):behindInMarks op b=false:=by
 have e:(op==CmpOp.In)=false:=by cases op <;> first | rfl | exact absurd rfl h
 have y:(op==CmpOp.NotIn)=false:=by cases op <;> first | rfl | exact absurd rfl z
 cases b <;> simp[behindInMarks,e,y]
theorem aF1 {op:CmpOp}{r:R2}(ho:OpR X (compareOp op) r)(k:PE X a ta)(m:PE X b tb)(Y:behindInMarks op b=false):PE X (.Compare a [op] [b] pos) (tOp r ta tb):=by
 refine⟨?_⟩;intro g s σ H Q I h;exact wpAny_Compare1 (dR9 k m I h λv u M x y e z U J q=>ho g M σ e x y v u Q z U J q) Y
def aS4 (t:TE):TT:=λσ H Q=>t σ H λx H'=>∃k,x=.bl k/\Q k H'
theorem B9 {op:CmpOp}{r:R2}(ho:OpR X (compareOp op) r)(R:PE X a ta)(D:PE X b tb)(F:behindInMarks op b=false):PT X (.Compare a [op] [b] pos) (aS4 (tOp r ta tb)):=by
 refine⟨?_⟩;intro g s σ H Q I h;refine wpAny_isTrue_Compare1 (thn (R g s σ H _ I h) λv s1 ⟨x,m,J,r1,B⟩=>thn (D g s1 σ m _ J B) λu s2 ⟨y,Y,M,r2,P⟩=>
  thn (ho g s2 σ Y x y v u _ M r1 r2 P) λc s3 ⟨z,U,N,r3,k,e,q3⟩=>?_) F
 subst e;cases r3;exact wpAny_truthy_bool ⟨U,N,q3⟩
theorem aK2:(sizeLine:Nat)<2^63:=by rw[Cd];decide
theorem J6:OpR X (binaryOp .Add) (λx y H Q=>∃i j,x=.str i/\y=.str j/\i.length+j.length<=sizeLine/\Q (.str (i++j)) H):=by
 intro k s σ H x y v u Q I z r h;obtain⟨i,j,rfl,rfl,e,q⟩:=h;obtain⟨t,rfl⟩:=z;obtain⟨g,rfl⟩:=r;exact add_str (λg tk=>⟨.str (i++j),H,I.tok _,⟨_,rfl⟩,q⟩) e
theorem bS7:OpR X (inplaceOp .Add) (λx y H Q=>∃i j,x=.str i/\y=.str j/\i.length+j.length<=sizeLine/\Q (.str (i++j)) H):=by
 intro k s σ H x y v u Q I z r h;obtain⟨i,j,rfl,rfl,e,q⟩:=h;obtain⟨t,rfl⟩:=z;obtain⟨g,rfl⟩:=r;exact iadd_str (λg tk=>⟨.str (i++j),H,I.tok _,⟨_,rfl⟩,q⟩) e
theorem V7 {x:V}{us:AF}(r:Vals [x] us):∃u,us=[u]/\RelV x u:=by
 cases r with
 | cons e y=>cases y;exact⟨_,rfl,e⟩
theorem bF2:T0 X (.type "int") (λxs H Q=>(∃i,xs=[.int i]/\Q (.int i) H)\/∃k,xs=[.bl k]/\Q (.int (if k then 1 else 0)) H):=by
 intro y s σ H xs z Q I r h;rcases h with⟨i,rfl,q⟩ | ⟨k,rfl,q⟩
 .obtain⟨u,rfl,t,rfl⟩:=V7 r;exact call_int_int ⟨.int i,H,I,⟨_,rfl⟩,q⟩
 .obtain⟨u,rfl,e⟩:=V7 r;cases e;exact call_int_bool ⟨.int (if k then 1 else 0),H,I.tok _,⟨_,rfl⟩,q⟩
end
structure ObjM (h:Heap)(x dx C:Addr)(mA:Str->Option Value):Prop where
 obj:h.get? x=some (PySem.W.instObj C dx)
 ns:h.Ns1 dx mA
 ne:dx≠x
theorem cK7 {h:Heap}{dx:Addr}{mA:Str->Option Value}(n:h.Ns1 dx mA):∃od,h.get? dx=some od/\∀name,PySem.W.lookIn name od=some (mA name):=by
 obtain⟨o,g,U,ho,s,m,_,Y⟩:=n;refine⟨o,ho,λname=>?_⟩
 have e:=Y name
 unfold nsFind findBy at e;rw[<- Array.find?_toList]at e;unfold PySem.W.lookIn;rw[s];dsimp only;split
 .rename_i y q;rw[q]at e;exact congrArg some e
 .rename_i q;rw[q]at e;have a:g.toList.any (·.refKey)=false:=by
   rw[List.any_eq_false];intro y X;obtain⟨z,t,r⟩:=m y (Array.mem_toList_iff.mp X)
   simp[DictEntry.refKey,r]
  have k:¬g.toList.any (·.refKey)=true:=by rw[a];exact Al
  rw[Ac k];exact congrArg some e
theorem ObjM.look {h:Heap}{x dx C:Addr}{mA:Str->Option Value}(I:ObjM h x dx C mA):∃od,PySem.W.InstAt h x (PySem.W.instObj C dx) C (some od)/\∀name,PySem.W.lookIn name od=some (mA name):=
 let ⟨od,ho,e⟩:=cK7 I.ns
 ⟨od,⟨I.obj,rfl,rfl,ho⟩,e⟩
section
variable {prog:Program}{w:World}{A:Around}{E:Dy}{s:Shared}{K:Frag}{x dx C f:Addr}{mA:Str->Option Value}{name:Str}{v:Value}
theorem dC4 {expr:Bool}{Q:Dy}(X:K.In s.heap)(I:ObjM s.heap x dx C mA)(hg:PySem.W.plainGet K C name=true)(z:PySem.W.hasDictIn K C=true)
  (y:PySem.W.findIn K (.ref C) name=some none) (g:mA name=some v) (e:PySem.W.handedIn v=true) (h:Q v {s with toks:=s.toks+1}) :
  wpAny (model prog w) A (getAttr (.ref x) name expr) Q E s:=by
 obtain⟨k,J,r⟩:=I.look;exact PySem.W.get_value X J (PySem.W.plainGet_of hg).1 (PySem.W.findObj_own z y rfl (by rw[r,g])) e h
theorem cV0 {pl:Sem Bool}{Q:Value×AF->Shared->Prop}(X:K.In s.heap)(I:ObjM s.heap x dx C mA)(hg:PySem.W.plainGet K C name=true)
  (e:PySem.W.findIn K (.ref C) name=some (some (.ref f))) (z:PySem.W.isFn K (.ref f)=true) (r:mA name=none) (h:Q (.ref f,[.ref x]) s) :
  wpAny (model prog w) A (getMethod (.ref x) name pl) Q E s:=by
 obtain⟨g,J,y⟩:=I.look;exact PySem.W.method_fn X J (PySem.W.plainGet_of hg).1 (PySem.W.plainGet_of hg).2 e (beq_iff_eq.mp z) (by show(PySem.W.lookIn name g).map (·.isSome)=some false;rw[y,r];rfl) h
theorem dG5 {ns:AG}{Q:Unit->Shared->Prop}(X:K.In s.heap)(I:ObjM s.heap x dx C mA)
  (D:PySem.W.findIn K (.ref C) "__setattr__" = some (some (.builtin "object.__setattr__"))) (hp:PySem.W.plainOver K C=true) (F:PySem.W.takerIn K C name=some none) (R:PySem.W.hasDictIn K C=true)
  (B:PySem.Within mA ns) (hsz:ns.length<=sizeLine)
  (h:∀h',ObjM h' x dx C (λy=>if y=name then some v else mA y)->Heap.SameBut dx s.heap h'->Q () {s with heap:=h',toks:=s.toks+2}) :
  wpAny (model prog w) A (setAttr (.ref x) name v) Q E s:=by
 obtain⟨od,J,hl⟩:=I.look;refine PySem.W.set_plain X J D (PySem.W.osa_open (s:={s with toks:=s.toks+1}) (r:=none) X J hp F λb=>?_)
 obtain⟨cd,N,k⟩:=PySem.W.any_some R;have P:s.heap.get? x=some ⟨.ref C,some dx,.plain,#[]⟩:=I.obj;refine Aa (Ab (Aa (Aa (wpAny_loadPart P (Aa (PySem.W.Looks.here (s:={s with toks:=s.toks+1}) (PySem.W.looks_clsIn X N) ?_))))))
 rw[k];refine Ab (a:=some dx) (Aa (Ab (Aa ?_)));refine wpAny_nsSet1 (s:={s with toks:=s.toks+1}) I.ns λh' e z=>?_
 obtain⟨oD,M,U,Y,m,g⟩:=e.count (PySem.Within.cons name v B);refine Aa (wpAny_lookBehind Y (by rw[m];exact pastItsLine_dict (Bf g (by rw[Aw];lia))) ?_)
 exact Ab (h _ ⟨(z.2 _ (Ne.symm I.ne)).trans I.obj,e,I.ne⟩ z)
theorem cP3 {R:Result->Shared->Prop}{vs:AF}{kw:List (Str×Value)}(X:K.In s.heap)(z:PySem.W.makesIn K C=true)
  (hi:PySem.W.findIn K (.ref C) "__init__" = some (some (.ref f))) (y:PySem.W.typeIn K (.ref f)=some (.type "function"))
  (h:codeAny (model prog w) (A.under (.builtin "type.__call__" ⟨.ref C::vs,kw⟩)) (.call (.ref f) ⟨.ref (s.heap.objs.size+1)::vs,kw⟩) (PySem.W.InitBack (s.heap.objs.size+1) R)
   {s with heap:=(s.heap.push PySem.W.emptyDict).push (PySem.W.instObj C s.heap.objs.size)}) :
  codeAny (model prog w) A (.call (.ref C) ⟨vs,kw⟩) R s:=by
 obtain⟨r,g,d,t,os⟩:=s;exact PySem.W.make_core (PySem.W.makes_of X z) (PySem.W.looks_findIn X hi) (λe=>PySem.W.bind_fn X e y) (.inl rfl) h
end
def aG3 (f:Str)(v:V):List (Str×V)->List (Str×V)
 | []=>[(f,v)]
 | (g,x)::r=>if g=f then(g,v)::r else(g,x)::aG3 f v r
theorem aS3 (f g:Str)(v:V):∀fs:List (Str×V),(aG3 f v fs).lookup g=if g=f then some v else fs.lookup g
 | []=>by
  show List.lookup g [(f,v)]=_
  by_cases h:g=f
  .have y:(g==f)=true:=beq_iff_eq.mpr h
   simp only[List.lookup,y,Ae h]
  .have y:(g==f)=false:=beq_eq_false_iff_ne.mpr h
   simp only[List.lookup,y,Ac h]
 | (k,x)::r=>by
  have s:=aS3 f g v r
  rw[show aG3 f v ((k,x)::r)=(if k=f then(k,v)::r else(k,x)::aG3 f v r) from rfl]
  by_cases z:k=f
  .rw[Ae z];by_cases h:g=k
   .have y:(g==k)=true:=beq_iff_eq.mpr h
    simp only[List.lookup,y,Ae (h.trans z)]
   .have y:(g==k)=false:=beq_eq_false_iff_ne.mpr h
    simp only[List.lookup,y,Ac (λe:g=f=>h (e.trans z.symm))]
  .rw[Ac z];by_cases h:g=k
   .have y:(g==k)=true:=beq_iff_eq.mpr h
    simp only[List.lookup,y,Ac (λe:g=f=>z (h.symm.trans e))]
   .have y:(g==k)=false:=beq_eq_false_iff_ne.mpr h
    simp only[List.lookup,y];exact s
theorem aP2 (f:Str)(v:V):∀fs:List (Str×V),f∈(aG3 f v fs).map (·.1)/\∀g,g∈fs.map (·.1)->g∈(aG3 f v fs).map (·.1)
 | []=>⟨by simp[aG3],λg h=>by simp at h⟩
 | (k,x)::r=>by
  obtain⟨z,s⟩:=aP2 f v r;rw[show aG3 f v ((k,x)::r)=(if k=f then(k,v)::r else(k,x)::aG3 f v r) from rfl]
  by_cases y:k=f
  .rw[Ae y];subst y;exact⟨by simp,λg h=>by simpa using h⟩
  .rw[Ac y];refine⟨?_,λg h=>?_⟩
   .rw[Ac7];exact Ad4 _ z
   .rw[Ac7]at h ⊢;rcases Aa1.mp h with e | e
    .exact Aa1.mpr (.inl e)
    .exact Ad4 _ (s g e)
theorem aS0 (f:Str)(v:V):∀fs:List (Str×V),(aG3 f v fs).length<=fs.length+1
 | []=>by simp[aG3]
 | (k,x)::r=>by
  have y:=aS0 f v r
  rw[show aG3 f v ((k,x)::r)=(if k=f then(k,v)::r else(k,x)::aG3 f v r) from rfl]
  by_cases e:k=f
  .rw[Ae e,Aw,Aw];lia
  .rw[Ac e,Aw,Aw];lia
theorem RelO.some_of {v:V}{o:Option Value}(r:RelO (some v) o):∃u,o=some u/\RelV v u:=by
 cases o with
 | none=>exact(show False from r).elim
 | some u=>exact⟨u,rfl,r⟩
theorem RelO.none_of {o:Option Value}(r:RelO none o):o=none:=by
 cases o with
 | none=>rfl
 | some u=>exact(show False from r).elim
theorem cK0 {v:V}{u:Value}(r:RelV v u):PySem.W.handedIn u=true:=by
 cases v with
 | non=>cases (show u=Value.none from r);rfl
 | bl b=>cases (show u=Value.bool b from r);rfl
 | int i=>obtain⟨t,e⟩:=(show ∃t,u=Value.int i t from r);cases e;rfl
 | str x=>obtain⟨t,e⟩:=(show ∃t,u=Value.str x t from r);cases e;rfl
 | byt b=>obtain⟨t,e⟩:=(show ∃t,u=Value.bytes b t from r);cases e;rfl
 | flt b=>obtain⟨t,e⟩:=(show ∃t,u=Value.float b t from r);cases e;rfl
 | ref a=>cases (show u=Value.ref a from r);rfl
 | ty n=>cases (show u=Value.type n from r);rfl
section
variable {P:Program}{w:World}{H H':Hp}{h h':Heap}{a C dx:Addr}{fs fs':List (Str×V)}
theorem bG0 (y:HOk P w H h)(e:H a=some (.ins C dx fs)):∃mA,ObjM h a dx C mA/\(∀f,RelO (fs.lookup f) (mA f))/\PySem.Within mA (fs.map (·.1))/\fs.length<=1000/\H dx=some (.own a):=by
 obtain⟨d,z,ne,g,mA,n,r,q⟩:=(show ObjOk P w H h a (.ins C dx fs) from y a _ e)
 exact⟨mA,⟨g,n,ne⟩,r,q,z,d⟩
end
structure Cls (K:Frag)(C:Addr):Prop where
 pg:PySem.W.plainGet K C Str.empty=true
 hd:PySem.W.hasDictIn K C=true
 po:PySem.W.plainOver K C=true
 sa:PySem.W.findIn K (.ref C) "__setattr__" = some (some (.builtin "object.__setattr__"))
theorem Cls.get {K:Frag}{C:Addr}(c:Cls K C)(f:Str):PySem.W.plainGet K C f=true:=c.pg
def NoAttr (K:Frag)(C:Addr)(f:Str):Prop:=PySem.W.findIn K (.ref C) f=some none
theorem NoAttr.taker {K:Frag}{C:Addr}{f:Str}(n:NoAttr K C f):PySem.W.takerIn K C f=some none:=by
 unfold PySem.W.takerIn;rw[show PySem.W.findIn K (.ref C) f=some none from n]
 rfl
structure cI6 (K:Frag)(C:Addr)(m:Str)(f:Addr):Prop where
 at_:PySem.W.findIn K (.ref C) m=some (some (.ref f))
 fn:PySem.W.isFn K (.ref f)=true
 kp:PySem.W.keepIn K (.ref f)=true
section
variable {X:Cx}{aA:Dz}{σ:St}{H:Hp}{s:Shared}{a C dx:Addr}{fs:List (Str×V)}{f:Str}{v:V}{A:Around}{E:Dy}
theorem bU5 {b:Bool}{Q:Dy}(I:Inv X aA σ H s)(e:H a=some (.ins C dx fs))(c:Cls X.K C)(n:NoAttr X.K C f)(l:fs.lookup f=some v)
  (h:∀u s',Inv X aA σ H s'->RelV v u->Q u s'):wpAny (model X.prog X.w) A (getAttr (.ref a) f b) Q E s:=by
 obtain⟨g,O,r,_,_,_⟩:=bG0 I.hok e;obtain⟨u,z,y⟩:=RelO.some_of (v:=v) (o:=g f) (by rw[<- l];exact r f)
 exact dC4 I.kIn O (c.get f) c.hd n z (cK0 y) (h u _ (I.tok _) y)
theorem aV6 {m:Str}{g:Addr}{pl:Sem Bool}{Q:Value×AF->Shared->Prop}(I:Inv X aA σ H s)(e:H a=some (.ins C dx fs))(c:Cls X.K C)(k:cI6 X.K C m g)(l:fs.lookup m=none)
  (h:Q (.ref g,[.ref a]) s):wpAny (model X.prog X.w) A (getMethod (.ref a) m pl) Q E s:=by
 obtain⟨z,O,r,_,_,_⟩:=bG0 I.hok e;have y:z m=none:=RelO.none_of (by rw[<- l];exact r m)
 exact cV0 I.kIn O (c.get m) k.at_ k.fn y h
theorem bU0 {y:V}{u:Value}{Q:Unit->Shared->Prop}(I:Inv X aA σ H s)(e:H a=some (.ins C dx fs))(c:Cls X.K C)(n:NoAttr X.K C f)(D:fs.length<1000)(R:RelV y u)
  (h:∀s',Inv X aA σ (upd H a (.ins C dx (aG3 f y fs))) s'->Q () s'):wpAny (model X.prog X.w) A (setAttr (.ref a) f u) Q E s:=by
 obtain⟨m,O,r,Y,_,ho⟩:=bG0 I.hok e;have N:(fs.map (·.1)).length<=sizeLine:=by rw[Aa3,Cd];lia
 refine dG5 I.kIn O c.sa c.po n.taker c.hd Y N λU k sb=>h _ ?_
 have M:∃o,U.get? dx=some o:=let ⟨o,_,_,e',_⟩:=k.ns;⟨o,e'⟩
 refine I.write (x:=a) (e:=dx) (by rw[e];exact True.intro) (.inr ho) (λb q J z=>(sb.2 b J).trans z) M ?_
 refine⟨by rw[A8 O.ne];exact ho,?_,O.ne,k.obj,_,k.ns,λg=>?_,λg hg=>?_⟩
 .have:=aS0 f y fs;lia
 .show RelO ((aG3 f y fs).lookup g) (if g=f then some u else m g)
  rw[aS3];by_cases q:g=f
  .rw[Ae q,Ae q];exact R
  .rw[Ac q,Ac q];exact r g
 .by_cases q:g=f
  .rw[q];exact(aP2 f y fs).1
  .refine(aP2 f y fs).2 g (Y g λz=>hg ?_)
   show(if g=f then some u else m g)=none
   rw[Ac q];exact z
theorem Inv.made (I:Inv X aA σ H s):Inv X aA σ (upd (upd H s.heap.objs.size (.own (s.heap.objs.size+1))) (s.heap.objs.size+1) (.ins C s.heap.objs.size []))
  {s with heap:=(s.heap.push PySem.W.emptyDict).push (PySem.W.instObj C s.heap.objs.size)}:=by
 have z:(s.heap.push PySem.W.emptyDict).get? s.heap.objs.size=some PySem.W.emptyDict:=Ac3 s.heap rfl
 have g:((s.heap.push PySem.W.emptyDict).push (PySem.W.instObj C s.heap.objs.size)).get? (s.heap.objs.size+1)=some (PySem.W.instObj C s.heap.objs.size):=by
  have:=Ac3 (s.heap.push PySem.W.emptyDict) (o:=PySem.W.instObj C s.heap.objs.size) rfl
  rwa [Ca]at this
 have k:(s.heap.push PySem.W.emptyDict).Ns s.heap.objs.size (λ_=>none):=⟨PySem.W.emptyDict,#[],_,z,rfl,(λe m=>absurd m (by simp)),λ_=>rfl⟩
 have r:=I.laid (a:=s.heap.objs.size) (o:=.own (s.heap.objs.size+1)) (h':=s.heap.push PySem.W.emptyDict) (t':=s.toks) (λb u q=>Aa6 _ q) (Aa7 _) ⟨_,z⟩
 refine r.laid (a:=s.heap.objs.size+1) (o:=.ins C s.heap.objs.size []) (t':=s.toks) (λb u q=>Aa6 _ q) (Nat.le_of_eq (Ca _ _)) ?_
 have ne:s.heap.objs.size≠s.heap.objs.size+1:=Ab9 (Nat.lt_succ_self _)
 refine⟨by rw[A8 ne,B3],Cn _,ne,g,λ_=>none,(Heap.Ns1.of_empty k).at λo q=>Aa6 _ q,λ_=>True.intro,λy Y=>absurd rfl Y⟩
theorem dG2 {prog:Program}{w:World}{env:Env}{e:Expr}{f:Str}{pos:Pos}{s:Shared}{Q:Dy}(y:attributeBase e f env (eval e env)=eval e env)
  (h:wpAny (model prog w) A (eval e env) (λo s₁=>wpAny (model prog w) A (getAttr o f true) Q E s₁) E s):wpAny (model prog w) A (eval (.Attribute e f pos) env) Q E s:=
 Attribute_any_ h (by rw[arm_eval_Attribute,y])
end
def eD4 (K:Frag)(ta:TE)(f:Str):TE:=λσ H Q=>ta σ H λx H1=>∃a C dx fs v,x=.ref a/\H1 a=some (.ins C dx fs)/\Cls K C/\NoAttr K C f/\fs.lookup f=some v/\Q v H1
def eK1 (K:Frag)(ta tv:TE)(f:Str):TS:=λD σ H=>tv σ H λy H1=>ta σ H1 λx H2=>∃a C dx fs,x=.ref a/\H2 a=some (.ins C dx fs)/\Cls K C/\NoAttr K C f/\fs.length<1000 /\
 D.nx σ (upd H2 a (.ins C dx (aG3 f y fs)))
section
variable {X:Cx}{o e value:Expr}{f:Str}{pos pos' tpos:Pos}{ta tv:TE}
theorem R8 (U:PE X e ta)(Y:attributeBase e f X.env (eval e X.env)=eval e X.env):PE X (.Attribute e f pos) (eD4 X.K ta f):=by
 refine⟨?_⟩;intro g s σ H Q I h;refine dG2 Y (thn (U g s σ H _ I h) λu N ⟨x,y,z,M,a,C,dx,fs,v,m,k,c,n,l,q⟩=>?_)
 subst m;obtain rfl:u=Value.ref a:=M;exact bU5 z k c n l λD R r J=>⟨v,y,r,J,q⟩
theorem bI1 (J:PE X o ta)(N:PE X value tv)(M:swapsWith value (some (.Attribute o f pos')) pos.line X.env=pure false):PS X (.Assign [.Attribute o f pos'] value pos) (eK1 X.K ta tv f):=by
 refine⟨?_⟩;intro z s σ H D I h;refine plainObj_wpAny_Assign_Attribute (thn (N z s σ H _ I h) λu P ⟨y,r,g,B,q⟩=>thn (J z P σ r _ g q) λR s2 ⟨x,H2,k,F,a,C,dx,fs,U,Y,c,n,l,Q⟩=>?_) M
 subst U;obtain rfl:R=Value.ref a:=F;exact bU0 k Y c n l B λs3 m=>⟨σ,_,m,Q⟩
end
structure Room (k:Nat)(A:Around):Prop where
 hd:A.handled=none
 dp:A.depth+3*k+5<recursionLimit
 un:A.units+16*k+200<cLine
theorem Room.mono {j k:Nat}{A:Around}(r:Room k A)(h:j<=k):Room j A:=⟨r.hd,by have:=r.dp;lia,by have:=r.un;lia⟩
theorem Room.deeper {k:Nat}{A:Around}(r:Room (k+1) A)(env:Env):Room k (A.deeper env):=
 ⟨r.hd,by have:=r.dp;show A.depth+1+3*k+5<_;lia,by have:=r.un;show A.units+3+16*k+200<_;lia⟩
theorem bY7 {A:Around}{C:Addr}{us:AF}{kw:List (Str×Value)}:(A.under (.builtin "type.__call__" ⟨.ref C::us,kw⟩)).depth=A.depth+1:=by
 first | rfl | simp[Around.under,Code.weight,Code.isCreation,Code.isGuard,Code.isCaller,Code.frames,Code.isFrame,guardIds]
theorem bZ3 {A:Around}{C:Addr}{us:AF}{kw:List (Str×Value)}:(A.under (.builtin "type.__call__" ⟨.ref C::us,kw⟩)).units=A.units+1:=by
 first | rfl | simp[Around.under,Code.cUnits,Code.frames,Code.isFrame]
theorem Room.make {k:Nat}{A:Around}(r:Room (k+1) A)(C:Addr)(us:AF)(e:List (Str×Value)):Room k (A.under (.builtin "type.__call__" ⟨.ref C::us,e⟩)):=
 ⟨r.hd,by have:=r.dp;rw[bY7];lia,by have:=r.un;rw[bZ3];lia⟩
theorem Room.depth {k:Nat}{A:Around}(r:Room k A):A.depth<recursionLimit:=by have:=r.dp;lia
def S8:TA:=λ_ H Q=>Q [] H
def K7 (ta:TE)(tr:TA):TA:=λσ H Q=>ta σ H λx H1=>tr σ H1 λxs H2=>Q (x::xs) H2
section
variable {X:Cx}{e:Expr}{es:AL}{te:TE}{t:TA}{pos:Pos}
theorem A4:PA X [] S8:=⟨λ_ _ _ _ H Q I h=>Calls.spliced_nil ⟨[],H,I,.nil,h⟩⟩
theorem dI4 (m:PE X e te)(Y:PA X es t)(U:starEach (e::es) X.env=(false,eval e X.env)::starEach es X.env:=by rfl):PA X (e::es) (K7 te t):=by
 refine⟨?_⟩;intro pos y s σ H Q I h;rw[U];show wpAny _ _ (spliced ((false,eval e X.env)::backTo pos (starEach es X.env))) _ _ s;refine Calls.spliced_cons (thn (m y s σ H _ I h) λu D ⟨x,z,g,N,J⟩=>?_)
 exact thn (Y pos y D σ z _ g J) λB F ⟨xs,r,k,R,M⟩=>⟨x::xs,r,k,.cons N R,M⟩
def dW9 (t:TA):TE:=λσ H Q=>t σ H λxs H1=>xs.length<=sizeLine/\∀p,H1 p=none->Q (.ref p) (upd H1 p (.tup xs))
def dH6 (t:TA):TE:=λσ H Q=>t σ H λxs H1=>xs.length<=sizeLine/\∀p,H1 p=none->Q (.ref p) (upd H1 p (.lst xs))
theorem O1 {x1}(h:PA X es t):PE X (.Tuple es x1 pos) (dW9 t):=by
 refine⟨?_⟩;intro m s σ H Q I U;refine wpAny_Tuple_spliced (thn (h pos m s σ H _ I U) λJ y ⟨xs,g,k,r,z,q⟩=>⟨by rw[<- r.length];exact z,?_⟩)
 have Y:g y.heap.objs.size=none:=k.hok.fresh (Aa7 _)
 refine⟨.ref y.heap.objs.size,upd g y.heap.objs.size (.tup xs),k.laid (t':=y.toks) (λb u e=>Aa6 _ e) (Aa7 _) ?_,rfl,q _ Y⟩
 exact⟨z,J,r,⟨_,Ac3 _ rfl,rfl,⟨_,rfl⟩,rfl⟩⟩
theorem C9 (h:PA X es t):PE X (.List es pos) (dH6 t):=by
 refine⟨?_⟩;intro m s σ H Q I U;refine wpAny_List_spliced (thn (h pos m s σ H _ I U) λJ y ⟨xs,g,k,r,z,q⟩=>⟨by rw[<- r.length];exact z,?_⟩)
 have Y:g y.heap.objs.size=none:=k.hok.fresh (Aa7 _)
 refine⟨.ref y.heap.objs.size,upd g y.heap.objs.size (.lst xs),k.laid (t':=y.toks) (λb u e=>Aa6 _ e) (Aa7 _) ?_,rfl,q _ Y⟩
 exact⟨z,J,0,r,Ac3 _ rfl⟩
end
abbrev Sp:=List V->Hp->VK->XK->Prop
abbrev CXT:=List Env->Hp->Shared->XK->Value->Shared->Prop
structure Env0 (P:Program)(w:World)(K:Frag)(mg:Str->Option Value)(base:Heap)(A:Around)(outer:List Env)(s:Shared)(H:Hp):Prop where
 frames:A.frames=some outer
 mod:Mod K mg base
 bs:∀b o,base.get? b=some o->s.heap.get? b=some o/\H b=none
 bsz:base.objs.size<=s.heap.objs.size
 funs:s.heap.FunFrames base outer
 frf:∀b∈frs outer,H b=none
 hok:HOk P w H s.heap
 bare:AllBare s.gens
def CE (outer:List Env)(P:Program)(w:World)(H:Hp)(s:Shared)(Q:VK)(u:Value)(s':Shared):Prop:=
 ∃v H',s'.os=s.os/\AllBare s'.gens/\Un (frs outer) [] H H' s.heap s'.heap/\HOk P w H' s'.heap/\RelV v u/\Q v H'
def CR (CX:CXT)(outer:List Env)(P:Program)(w:World)(H:Hp)(s:Shared)(Q:VK)(E:XK)(r:Result)(s':Shared):Prop:=
 match r with
 | .ok (.ret u)=>CE outer P w H s Q u s'
 | .ok _=>False
 | .error e=>CX outer H s E e s'
structure FnOk (P:Program)(w:World)(K:Frag)(mg:Str->Option Value)(base:Heap)(CX:CXT)(k:Nat)(f:Addr)(fd:FuncData)(ps:AG)(sp:Sp):Prop where
 len:∀vs H Q E,sp vs H Q E->vs.length=ps.length
 run:∀(A:Around) (outer:List Env) (s:Shared) (H:Hp) (args:Args) (us:AF) (vs:List V) (Q:VK) (E:XK),Room k A->Env0 P w K mg base A outer s H->BindsTo s fd args (ps.zip us)->Vals vs us->sp vs H Q E ->
  codeAny (model P w) A (.call (.ref f) args) (CR CX outer P w H s Q E) s
theorem FnOk.imp {P:Program}{w:World}{K:Frag}{mg:Str->Option Value}{base:Heap}{CX:CXT}{k:Nat}{f:Addr}{fd:FuncData}{ps:AG}{sp sp':Sp}(F:FnOk P w K mg base CX k f fd ps sp)
  (h:∀vs H Q E,sp' vs H Q E->sp vs H Q E):FnOk P w K mg base CX k f fd ps sp':=
 ⟨λvs H Q E q=>F.len vs H Q E (h _ _ _ _ q),λA e s H y X vs Q E g r z Y m=>F.run A e s H y X vs Q E g r z Y (h _ _ _ _ m)⟩
theorem Env0.make {P:Program}{w:World}{K:Frag}{mg:Str->Option Value}{base:Heap}{A:Around}{outer:List Env}{s:Shared}{H:Hp}(e:Env0 P w K mg base A outer s H)(C:Addr)(us:AF)(y:List (Str×Value)) :
  Env0 P w K mg base (A.under (.builtin "type.__call__" ⟨.ref C::us,y⟩)) outer s H:=⟨by first | exact e.frames | (simpa[Around.under,Code.envs,Code.isFrame,pushEnvs]using e.frames),e.mod,e.bs,e.bsz,e.funs,e.frf,e.hok,e.bare⟩
section
variable {X:Cx}{aA:Dz}{σ:St}{H:Hp}{s s':Shared}
theorem Inv.env0 (I:Inv X aA σ H s):Env0 X.prog X.w X.K X.mg X.base X.A X.stack s H:=
 ⟨I.ok.frames,I.ok.mod,I.bs,Bf I.ok.bsz I.sz,I.stack,I.stkFree,I.hok,I.bare⟩
theorem Inv.after {Q:VK}{u:Value}(I:Inv X aA σ H s)(h:CE X.stack X.prog X.w H s Q u s'):EP X aA σ Q u s':=by
 obtain⟨v,m,os,e,un,y,r,q⟩:=h;obtain⟨Y,g,d,t,k⟩:=s';obtain rfl:k=s.os:=os;exact⟨v,m,I.call (h':=Y) (g':=g) (d':=d) (t':=t) (ch:=[]) un y e (λb z=>absurd z (by simp)),r,q⟩
end
def bC3 (sp:Sp)(dvs:List V)(E:XK)(t:TA):TE:=λσ H Q=>t σ H λvs H1=>sp (vs++dvs) H1 Q E
def dK2 (C:Addr)(m:Str)(sp:Sp)(dvs:List V)(E:XK)(ta:TE)(t:TA):TE:=λσ H Q=>ta σ H λx H1=>∃a dx fs,x=.ref a/\H1 a=some (.ins C dx fs)/\fs.lookup m=none /\
 t σ H1 λvs H2=>sp (x::(vs++dvs)) H2 Q E
def eF8 (C:Addr)(sp:Sp)(dvs:List V)(E:XK)(t:TA):TE:=λσ H Q=>t σ H λvs H1=>∀x dx,H1 x=none->H1 dx=none->dx≠x ->
 sp (.ref x::(vs++dvs)) (upd (upd H1 dx (.own x)) x (.ins C dx [])) (λv H2=>v=.non/\Q (.ref x) H2) E
def Binds (K:Frag)(fd:FuncData)(ps:AG)(ds:AF):Prop:=
 ∀(s:Shared) (us:AF),K.In s.heap->(us++ds).length=ps.length->BindsTo s fd ⟨us,[]⟩ (ps.zip (us++ds))
theorem Binds.all {K:Frag}{fd:FuncData}{ps:AG}(h:∀us:AF,us.length=ps.length->bindArgs fd ⟨us,[]⟩=pure (ps.zip us)):Binds K fd ps []:=λs us _ e=>by
 rw[Bl]at e ⊢;exact .of_eq (h us e)
def aJ7 (CX:CXT)(X:Cx)(E:XK):Prop:=∀(aA:Dz) (σ:St) (H:Hp) (s:Shared) (e:Value) (s':Shared),Inv X aA σ H s->CX X.stack H s E e s'->X.xe e s'
section
variable {X:Cx}{CX:CXT}{k:Nat}{f C:Addr}{fd:FuncData}{ps:AG}{sp:Sp}{dvs:List V}{ds:AF}{E:XK}{x m:Str}{p pos apos:Pos}{e o:Expr}{es:AL}{ta:TE}{t:TA}
theorem bZ4 {aA:Dz}{σ:St}{H:Hp}{s:Shared}{Q:VK}{us:AF}{vs:List V}(F:FnOk X.prog X.w X.K X.mg X.base CX k f fd ps sp)(J:Room k X.A)(g:Binds X.K fd ps ds)(Y:Vals dvs ds)(M:aJ7 CX X E)
  (I:Inv X aA σ H s) (r:Vals vs us) (h:sp (vs++dvs) H Q E):wpAny (model X.prog X.w) X.A (call (.ref f) us) (EP X aA σ Q) X.xe s:=by
 have z:Vals (vs++dvs) (us++ds):=r.append Y
 have U:(us++ds).length=ps.length:=by rw[<- z.length];exact F.len _ _ _ _ h
 refine wpAny_call (codeAny_mono (F.run X.A X.stack s H ⟨us,[]⟩ (us++ds) (vs++dvs) Q E J I.env0 (g s us I.kIn U) z h) λr N y=>?_)
 cases r with
 | error e=>exact M aA σ H s e N I y
 | ok fl=>
  cases fl with
  | ret u=>exact I.after y
  | next=>exact False.elim y
  | brk=>exact False.elim y
  | cont=>exact False.elim y
theorem C6 (F:FnOk X.prog X.w X.K X.mg X.base CX k f fd ps sp)(B:Room k X.A)(hg:Gl X x)(D:X.mg x=some (.ref f))(R:PySem.W.keepIn X.K (.ref f)=true)(J:Binds X.K fd ps ds)(M:Vals dvs ds)(P:aJ7 CX X E)
  (U:PA X (e::es) t) (y:(x==("__debug__" : Str))=false:=by decide) (N:starEach (e::es) X.env=(false,eval e X.env)::starEach es X.env:=by rfl) (z:(backTo pos (starEach es X.env)).any (·.1)=false:=by rfl) :
  PE X (.Call (.Name x p) (e::es) [] pos) (bC3 sp dvs E t):=by
 refine⟨?_⟩;intro Y s σ H Q I h;refine wpAny_Call_Name_kw (bH6 I hg D ?_ y);refine PySem.W.callWith_K (h₀:=X.base) I.ok.mod.kin R (thn (U pos Y s σ H _ I h) λus s1 ⟨vs,H1,g,r,q⟩=>⟨g.kIn,?_⟩) N z
 exact bZ4 F B J M P g r q
theorem bJ9 {pl:Sem Bool}(he:PE X o ta)(c:Cls X.K C)(J:cI6 X.K C m f)(F:FnOk X.prog X.w X.K X.mg X.base CX k f fd ps sp)(hr:Room k X.A)(B:Binds X.K fd ps ds)(P:Vals dvs ds)(hx:aJ7 CX X E)(D:PA X (e::es) t)
  (z:starEach (e::es) X.env=(false,eval e X.env)::starEach es X.env:=by rfl) (y:(backTo pos (starEach es X.env)).any (·.1)=false:=by rfl)
  (ht:eval (.Call (.Attribute o m apos) (e::es) [] pos) X.env=(do
   let ov <- eval o X.env
   standAt apos.atName
   let (f,first) <- holding [ov] (getMethod ov m pl)
   callWith pos f first (backTo pos (starEach (e::es) X.env)) (backToKw pos (keywordEach [] X.env))):=by rfl) :
  PE X (.Call (.Attribute o m apos) (e::es) [] pos) (dK2 C m sp dvs E ta t):=by
 refine⟨?_⟩;intro U s σ H Q I h;refine PySem.W.methodCall_KW (pl:=pl) (thn (he U s σ H _ I h) λu s1 ⟨x,M,g,rx,a,dx,fs,R,N,l,q⟩=>?_) ht
 subst R;obtain rfl:u=Value.ref a:=rx;refine aV6 g N c J l ?_;refine PySem.W.callWith_K (first:=[.ref a]) (h₀:=X.base) I.ok.mod.kin J.kp (thn (D pos U s1 σ M _ g q) λus s2 ⟨vs,H2,Y,r,q2⟩=>⟨Y.kIn,?_⟩) z y
 exact bZ4 (us:=.ref a::us) (vs:=.ref a::vs) F hr B P hx Y (.cons rfl r) q2
theorem cV2 {pl:Sem Bool}(M:PE X o ta)(c:Cls X.K C)(z:cI6 X.K C m f)(F:FnOk X.prog X.w X.K X.mg X.base CX k f fd ps sp)(N:Room k X.A)(U:Binds X.K fd ps ds)(J:Vals dvs ds)(D:aJ7 CX X E)
  (R:eval (.Call (.Attribute o m apos) [] [] pos) X.env=(do
   let ov <- eval o X.env
   standAt apos.atName
   let (f,first) <- holding [ov] (getMethod ov m pl)
   callWith pos f first (backTo pos (starEach [] X.env)) (backToKw pos (keywordEach [] X.env))):=by rfl) :
  PE X (.Call (.Attribute o m apos) [] [] pos) (dK2 C m sp dvs E ta S8):=by
 refine⟨?_⟩;intro r s σ H Q I h;refine PySem.W.methodCall_KW (pl:=pl) (thn (M r s σ H _ I h) λu s1 ⟨x,P,y,B,a,dx,fs,Y,g,l,q⟩=>?_) R
 subst Y;obtain rfl:u=Value.ref a:=B;refine aV6 y g c z l ?_;exact PySem.W.callWith_K0 (first:=[.ref a]) y.kIn z.kp (bZ4 (us:=[.ref a]) (vs:=[.ref a]) F N U J D y (.cons rfl .nil) q)
structure Mk (K:Frag)(C f:Addr):Prop where
 makes:PySem.W.makesIn K C=true
 init:PySem.W.findIn K (.ref C) "__init__" = some (some (.ref f))
 fn:PySem.W.isFn K (.ref f)=true
 kp:PySem.W.keepIn K (.ref C)=true
theorem cS7 {aA:Dz}{σ:St}{H:Hp}{s:Shared}{Q:VK}{us:AF}{vs:List V}(M:Mk X.K C f)(F:FnOk X.prog X.w X.K X.mg X.base CX k f fd ps sp)(P:Room (k+1) X.A)(R:Binds X.K fd ps ds)(D:Vals dvs ds)
  (hx:aJ7 CX X E) (I:Inv X aA σ H s) (r:Vals vs us)
  (h:∀x dx,H x=none->H dx=none->dx≠x->sp (.ref x::(vs++dvs)) (upd (upd H dx (.own x)) x (.ins C dx [])) (λv H2=>v=.non/\Q (.ref x) H2) E) :
  wpAny (model X.prog X.w) X.A (call (.ref C) us) (EP X aA σ Q) X.xe s:=by
 have g:=h (s.heap.objs.size+1) s.heap.objs.size (I.hok.fresh (Nat.le_succ _)) (I.hok.fresh (Aa7 _)) (Ab9 (Nat.lt_succ_self _))
 have z:=Inv.made (C:=C) I
 have Y:Vals (V.ref (s.heap.objs.size+1)::(vs++dvs)) (Value.ref (s.heap.objs.size+1)::(us++ds)):=.cons rfl (r.append D)
 have B:(Value.ref (s.heap.objs.size+1)::us++ds).length=ps.length:=by
  have e:=Y.length
  rw[F.len _ _ _ _ g]at e;exact e.symm
 refine wpAny_call (cP3 (f:=f) I.kIn M.makes M.init (beq_iff_eq.mp M.fn) (codeAny_mono (F.run _ X.stack _ _ ⟨Value.ref (s.heap.objs.size+1)::us,[]⟩ (Value.ref (s.heap.objs.size+1)::(us++ds)) _ _ E (P.make C us [])
  (z.env0.make C us []) (R _ (Value.ref (s.heap.objs.size+1)::us) z.kIn B) Y g) λr s' y=>?_))
 cases r with
 | error e=>exact hx aA σ _ _ e s' z y
 | ok fl=>
  cases fl with
  | ret u=>
   obtain⟨v,U,J,rv,N,q3⟩:=z.after y;subst N;exact⟨rv,⟨V.ref (s.heap.objs.size+1),U,J,rfl,q3⟩⟩
  | next=>exact False.elim y
  | brk=>exact False.elim y
  | cont=>exact False.elim y
theorem cZ8 (M:Mk X.K C f)(F:FnOk X.prog X.w X.K X.mg X.base CX k f fd ps sp)(Y:Room (k+1) X.A)(hg:Gl X x)(g:X.mg x=some (.ref C))(z:Binds X.K fd ps ds)(r:Vals dvs ds)(U:aJ7 CX X E)
  (y:(x==("__debug__" : Str))=false:=by decide):PE X (.Call (.Name x p) [] [] pos) (eF8 C sp dvs E S8):=by
 refine⟨?_⟩;intro J s σ H Q I h;refine wpAny_Call_Name_kw (bH6 I hg g ?_ y);exact PySem.W.callWith_K0 I.kIn M.kp (cS7 (us:=[]) M F Y z r U I .nil h)
end
structure D4 (N P:AG)(sc:Scope):Prop where
 kind:sc.kind=.function
 co:sc.isCoroutine=false
 gen:sc.isGenerator=false
 nd:N.Nodup
 pre:N.take P.length=P
 par:∀x∈P,sc.names.lookup x=some .local\/sc.names.lookup x=some .cell
 nofree:∀y∈sc.names,y.2≠.free
theorem bC9 {kindOf:Str->Option NameKind}{x:Str}:∀{binds:List (Str×Value)} {m:Str->Option Value},(∀v,(x,v)∉binds)->bindL kindOf binds m x=m x
 | [],_,_=>rfl
 | (n,v)::r,m,h=>by
  unfold bindL;rw[bC9 λw e=>h w (Ad4 _ e)]
  split
  .have:x≠n:=by rintro rfl;exact h v Az
   simp[this]
  .rfl
theorem bD7 {kindOf:Str->Option NameKind}{x:Str}:∀{binds:List (Str×Value)} {m:Str->Option Value},(∀v,(x,v)∉binds)->bindC kindOf binds m x=m x
 | [],_,_=>rfl
 | (n,v)::r,m,h=>by
  unfold bindC;rw[bD7 λw e=>h w (Ad4 _ e)]
  split
  .rfl
  .have:x≠n:=by rintro rfl;exact h v Az
   simp[this]
theorem bD9 {kindOf:Str->Option NameKind}{x:Str}{v:Value}:∀{P:AG} {vs:AF} {i:Nat} {m:Str->Option Value},P.Nodup->P[i]? = some x->vs[i]? = some v->kindOf x=some .local ->
  bindL kindOf (P.zip vs) m x=some v
 | [],_,_,_,_,h,_,_=>by simp at h
 | _::_,[],_,_,_,_,h,_=>by simp at h
 | p::P,w::vs,0,m,nd,h1,h2,hk=>by
  simp at h1 h2;subst h1;subst h2
  show bindL kindOf ((p,w)::P.zip vs) m p=_
  unfold bindL;rw[bC9 λv e=>(Aa5.mp nd).1 (List.of_mem_zip e).1,Ae hk]
  simp
 | p::P,w::vs,i+1,m,nd,h1,h2,hk=>by
  show bindL kindOf ((p,w)::P.zip vs) m x=_
  unfold bindL;exact bD9 (i:=i) (Aa5.mp nd).2 (by simpa using h1) (by simpa using h2) hk
theorem bD5 {kindOf:Str->Option NameKind}{x:Str}{v:Value}:∀{P:AG} {vs:AF} {i:Nat} {m:Str->Option Value},P.Nodup->P[i]? = some x->vs[i]? = some v->kindOf x≠some .local ->
  bindC kindOf (P.zip vs) m x=some v
 | [],_,_,_,_,h,_,_=>by simp at h
 | _::_,[],_,_,_,_,h,_=>by simp at h
 | p::P,w::vs,0,m,nd,h1,h2,hk=>by
  simp at h1 h2;subst h1;subst h2
  show bindC kindOf ((p,w)::P.zip vs) m p=_
  unfold bindC;rw[bD7 λv e=>(Aa5.mp nd).1 (List.of_mem_zip e).1,Ac hk]
  simp
 | p::P,w::vs,i+1,m,nd,h1,h2,hk=>by
  show bindC kindOf ((p,w)::P.zip vs) m x=_
  unfold bindC;exact bD5 (i:=i) (Aa5.mp nd).2 (by simpa using h1) (by simpa using h2) hk
def m6 (N:AG)(vs:List V):St:=vs.map some++List.replicate (N.length-vs.length) none
def bX5 (CX:CXT)(P:Program)(w:World)(K:Frag)(mg:Str->Option Value)(base:Heap)(N:AG)(qual:Str)(scope:Scope)(f:Addr)(cd:Value)(A:Around)(outer:List Env)(s:Shared)(H:Hp)(E:XK):Cx where
 prog:=P
 w:=w
 K:=K
 mg:=mg
 base:=base
 A:=A.deeper (envOfC qual scope s.heap.objs.size f cd)
 N:=N
 s₀:=s
 H₀:=H
 env:=envOfC qual scope s.heap.objs.size f cd
 outer:=outer
 stack:=envOfC qual scope s.heap.objs.size f cd::outer
 ex:=[]
 calm:=true
 fn:=λ_=>true
 pn:=[]
 xe:=λe s'=>wpAny (model P w) (A.deeper (envOfC qual scope s.heap.objs.size f cd)) (leaving (envOfC qual scope s.heap.objs.size f cd) e) (λ_ s''=>CX outer H s E e s'') (λe' s''=>CX outer H s E e' s'') s'
theorem bS6 {sc:Scope}{n:Nat}{x:Str}(h:sc.names.lookup x=some .cell):∃c,(cellsFrom n sc.names []).lookup x=some c:=by
 have q:=PySem.W.cellsFrom_some sc.names n [] (.inl h)
 exact Option.isSome_iff_exists.mp q
theorem cH9 {CX:CXT}{P:Program}{w:World}{K:Frag}{mg:Str->Option Value}{base:Heap}{N ps:AG}{qual:Str}{scope:Scope}{f:Addr}{cd:Value}{A:Around}{outer:List Env}{s s1:Shared}{H:Hp}{E:XK}{us:AF}{vs:List V}
  (S:D4 N ps scope) (R:A.handled=none) (m:Env0 P w K mg base A outer s H) (B:vs.length=ps.length) (r:Vals vs us)
  (x:InCallC s s.heap.objs.size (bindL (envOfC qual scope s.heap.objs.size f cd).kindOf (ps.zip us) λ_=>none) (cellsFrom (s.heap.objs.size+1) scope.names []) (bindC (envOfC qual scope s.heap.objs.size f cd).kindOf (ps.zip us) λ_=>none) s1) :
  Inv (bX5 CX P w K mg base N qual scope f cd A outer s H E) [] (m6 N vs) H s1:=by
 have Q:ps.length<=N.length:=by have:=congrArg List.length S.pre;rw[Ad1]at this;lia
 obtain⟨h1,tk,rfl,U⟩:=x.done;have Y:∀b:Addr,b∉(bX5 CX P w K mg base N qual scope f cd A outer s H E).ex:=λb z=>absurd (show b∈([]:AK) from z) (by simp)
 refine⟨⟨m.mod,S.kind,rfl,rfl,Aa7 _,λy z c h1 g=>?_,λy hy=>?_,λy c _ h=>?_,λ_=>R,Around.frames_deeper m.frames,.inr ⟨rfl,rfl⟩,λb z=>absurd z (Y b),m.bs,m.bsz,λb _ _=>Y b,λb z=>absurd z (Y b),m.funs,m.frf⟩,
  rfl,m.bare,Un.kept U,⟨_,x.toInCall.ns,λi y v h1 g F=>?_⟩,λy c h=>⟨_,x.cell y c h⟩,m.hok.fresh (Aa7 _),λy c h=>?_,λp hp=>absurd (show p∈([]:Dz) from hp) (by simp),m.hok.kept U,?_⟩
 .exact name_of_addr x.apart (PySem.mem_of_lookup h1) (PySem.mem_of_lookup g)
 .have hy:scope.names.lookup y=some .cell\/scope.names.lookup y=some .free:=hy
  rcases hy with hy | hy
  .exact bS6 hy
  .exact absurd rfl (S.nofree _ (PySem.mem_of_lookup hy))
 .exact Dh (x.above y c (PySem.mem_of_lookup h))
 .have hi:i<vs.length:=by
   unfold m6 at g;by_cases hi:i<vs.length
   .exact hi
   .rw[Au (by simpa using hi)]at g
    rw[Co]at g;split at g <;> cases g
  have M:vs[i]? = some v:=by
   unfold m6 at g;rw[By (by simpa using hi),Aa9]at g
   cases e:vs[i]? with
   | none=>rw[e]at g;cases g
   | some a=>rw[e]at g;cases g;rfl
  obtain⟨u,J,D⟩:=r.get M;have hp:ps[i]? = some y:=by
   rw[<- S.pre,List.getElem?_take_of_lt (by lia)];exact h1
  have X:ps.Nodup:=by rw[<- S.pre];exact S.nd.sublist (List.take_sublist _ _)
  refine⟨u,D,?_⟩;rcases S.par y (Ar hp) with k | k
  .exact .inl ⟨k,bD9 X hp J k⟩
  .obtain⟨c,e⟩:=bS6 (n:=s.heap.objs.size+1) k;refine .inr ⟨.inl k,c,e,?_⟩;have q:=x.cell y c e;rw[bD5 X hp J (by show scope.names.lookup y≠_;rw[k];decide)]at q
   exact q
 .exact m.hok.fresh (Dh (x.above y c (PySem.mem_of_lookup h)))
 .unfold m6;show _=N.length;rw[Ab7,Aa3,Bs]
  lia
theorem eD2 {CX:CXT}{P:Program}{w:World}{K:Frag}{mg:Str->Option Value}{base:Heap}{k:Nat}{f:Addr}{name qual:Str}{params:Arguments}{body:List Stmt}{scope:Scope}{dV kV doc pm cdv ct oc:Value}{an od:AJ}
  {osl:Array (Option Value)} {N ps:AG} {sp:Sp} (lk:K.lookup f=some ⟨oc,od,.func (PySem.W.fnOf name qual params body scope dV kV doc pm an cdv ct),osl⟩) (R:PySem.W.codeIn K cdv qual=true) (S:D4 N ps scope)
  (len:∀vs H Q E,sp vs H Q E->vs.length=ps.length)
  (z:∀(A:Around) (outer:List Env) (s:Shared) (H:Hp) (vs:List V) (Q:VK) (E:XK),Room k (A.deeper (envOfC qual scope s.heap.objs.size f cdv))->sp vs H Q E ->
   ∃t,PSs (bX5 CX P w K mg base N qual scope f cdv A outer s H E) body t/\t {nx:=λ_ H'=>Q .non H',rt:=Q} (m6 N vs) H) :
  FnOk P w K mg base CX (k+1) f (PySem.W.fnOf name qual params body scope dV kV doc pm an cdv ct) ps sp:=by
 refine⟨len,λA outer s H args us vs Q E D Y hb r U=>?_⟩
 have hl:=len _ _ _ _ U
 have KX:K.In s.heap:=Y.mod.kin.keeps λb o e=>(Y.bs b o e).1
 have F:s.heap.NoLimit:=Y.mod.nolimit.keeps λb o e=>(Y.bs b o e).1
 have g:∀y∈ps.zip us,scope.names.lookup y.1=some .local\/(scope.names.lookup y.1=some .cell/\((cellsFrom (s.heap.objs.size+1) scope.names []).lookup y.1).isSome=true):=λ⟨n,v⟩ hy=>by
  rcases S.par n (List.of_mem_zip hy).1 with q | q
  .exact .inl q
  .exact .inr ⟨q,PySem.W.cellsFrom_some _ _ _ (.inl q)⟩
 refine codeAny_call_function D.depth (KX _ _ lk) rfl S.co S.gen rfl (PySem.W.codeRec_of KX R) (hb _ _ _ _ ?_);refine wpAny_newFunctionEnv_cells S.kind g λenv he s1 x=>?_
 subst he;refine⟨F.keeps x.toInCall.keep,codeAny_func ?_⟩;obtain⟨t,ht,hq⟩:=z A outer s H vs Q E (D.deeper _) U;have I:Inv (bX5 CX P w K mg base N qual scope f cdv A outer s H E) [] (m6 N vs) H s1:=cH9 S D.hd Y hl r x;refine wpAny_mono (ht [] s1 (m6 N vs) H _ I hq) (λfl s' m=>?_) λe s' m=>m
 have X:∀{M:St} {H':Hp} {v:V} {u:Value},Inv (bX5 CX P w K mg base N qual scope f cdv A outer s H E) [] M H' s'->RelV v u->Q v H'->CE outer P w H s Q u s':=
  λ{M H' v u} J B q=>⟨v,H',J.os,J.bare,J.base,J.hok,B,q⟩
 cases fl with
 | ret u=>
  obtain⟨v,M,H',J,B,q⟩:=m;exact X J B q
 | next=>
  obtain⟨M,H',J,q⟩:=m;exact X (v:=V.non) (u:=Value.none) J rfl q
 | brk=>
  obtain⟨_,_,_,q⟩:=m;exact False.elim q
 | cont=>
  obtain⟨_,_,_,q⟩:=m;exact False.elim q
section
variable {X:Cx}{x:Str}{p pos:Pos}{e:Expr}{es:AL}{t:TA}{id T:String}{r:List V->Hp->VK->Prop}
def tCB (r:List V->Hp->VK->Prop)(t:TA):TE:=λσ H Q=>t σ H λvs H1=>r vs H1 Q
theorem B8 (U:T0 X (.builtin id) r)(hg:Gl X x)(M:X.mg x=none)(R:bootBuiltins x=some (.builtin id))(Y:PA X (e::es) t)(N:x≠"__name__" := by decide)(y:(x==("__debug__" : Str))=false:=by decide)
  (J:starEach (e::es) X.env=(false,eval e X.env)::starEach es X.env:=by rfl) (z:(backTo pos (starEach es X.env)).any (·.1)=false:=by rfl):PE X (.Call (.Name x p) (e::es) [] pos) (tCB r t):=by
 refine⟨?_⟩;intro g s σ H Q I h;refine wpAny_Call_Name_kw (R9 I hg M R ?_ N y);exact PyProof.Rows.callWith_builtin1 (thn (Y pos g s σ H _ I h) λP B ⟨vs,k,m,F,D⟩=>U g B σ k vs P Q m F D) J z
theorem K3 (U:T0 X (.type T) r)(hg:Gl X x)(M:X.mg x=none)(R:bootBuiltins x=some (.type T))(Y:PA X (e::es) t)(N:x≠"__name__" := by decide)(y:(x==("__debug__" : Str))=false:=by decide)
  (J:starEach (e::es) X.env=(false,eval e X.env)::starEach es X.env:=by rfl) (z:(backTo pos (starEach es X.env)).any (·.1)=false:=by rfl):PE X (.Call (.Name x p) (e::es) [] pos) (tCB r t):=by
 refine⟨?_⟩;intro g s σ H Q I h;refine wpAny_Call_Name_kw (R9 I hg M R ?_ N y);exact An (thn (Y pos g s σ H _ I h) λP B ⟨vs,k,m,F,D⟩=>U g B σ k vs P Q m F D) J z
end
end L2
namespace HT
open PySem PyProof.Rows
section
open PySem.SeqAt
open PySem.AutoSeq1 (wpAny_loadPart')
open PySem.MeetsSeq PySem.MeetsSeq2 PySem.MeetsSeq3
end
section
variable {prog:Program}{w:World}{A:Around}{E:Dy}{s:Shared}
theorem dH7 {t b:Addr}{vs ws:AF}{Q:Dy}(ht:IsTup s.heap t vs.toArray)(P:IsTup s.heap b ws.toArray)(N:vs≠[])
  (h1:ws=[]->Q (.ref t) s) (B:ws≠[]->Q (.ref s.heap.objs.size) {s with heap:=s.heap.push {cls:=.type "tuple",data:=.seq (vs++ws).toArray}})
  (hsz:vs.length+ws.length<=sizeLine):wpAny (model prog w) A (binaryOp .Add (.ref t) (.ref b)) Q E s:=by
 obtain⟨⟨cls,U,data,D⟩,ho,J,n,M⟩:=id ht;obtain⟨⟨X,z,Y,k⟩,y,r,R,g⟩:=id P;simp only at J M r g;subst J M r g;have e:vs.toArray++ws.toArray=(vs++ws).toArray:=by simp
 by_cases m:ws=[]
 .exact concat_meets ⟨_,ho,rfl⟩ ⟨_,y,rfl⟩ noFill_tuple_add seq_tuple_add PySem.F.slot_tuple_add PySem.F.entry_tuple_add (PySem.F.args_tuple_add_2 _ _)
   (tuple_addW1 t b vs.toArray ws.toArray n R U z D k (by simpa using N) (by simp[m])) ⟨ho,y,h1 m⟩
 .refine concat_meets ⟨_,ho,rfl⟩ ⟨_,y,rfl⟩ noFill_tuple_add seq_tuple_add PySem.F.slot_tuple_add PySem.F.entry_tuple_add (PySem.F.args_tuple_add_2 _ _)
   (tuple_addW2 t b vs.toArray ws.toArray n R U z D k (by simpa using N) (by simpa using m) (by rw[Ab2,Ab2];exact hsz)) ⟨ho,y,?_⟩
  rw[e];exact B m
def sIx (n d:Nat):Option Int->Nat
 | none=>d
 | some v=>if v<0 then(v+(n:Int)).toNat else min v.toNat n
theorem dY8 (n d:Nat)(y:d<=n)(o:Option Int):sIx n d o<=n:=by
 cases o with
 | none=>exact y
 | some v=>
  show(if v<0 then(v+(n:Int)).toNat else min v.toNat n)<=n
  by_cases e:v<0
  .rw[Ae e];lia
  .rw[Ac e];exact Nat.min_le_right _ _
theorem cC7 (v:Int)(n d:Nat):(if v<0 then max (v+(n:Int)) 0 else min v (n:Int))=((sIx n d (some v):Nat):Int):=by
 show(if v<0 then max (v+(n:Int)) 0 else min v (n:Int))=(((if v<0 then(v+(n:Int)).toNat else min v.toNat n):Nat):Int)
 by_cases e:v<0
 .simp only[Ae e];lia
 .simp only[Ac e];lia
theorem bU6 (lo hi:Option Int)(n:Nat):Builtin.Slice.sliceAdjust lo hi 1 (n:Int)=(((sIx n 0 lo:Nat):Int),((sIx n n hi:Nat):Int)):=by
 have h1:¬((1:Int)<0):=by lia
 unfold Builtin.Slice.sliceAdjust;simp only[h1,if_false];refine Prod.ext ?_ ?_
 .cases lo with
  | none=>rfl
  | some v=>exact cC7 v n 0
 .cases hi with
  | none=>rfl
  | some v=>exact cC7 v n n
theorem bU2 (i j:Nat):Builtin.Slice.slicePlaces (i:Int) (j:Int) 1=j-i:=by
 unfold Builtin.Slice.slicePlaces;have h1:(1:Int)>0:=by lia
 simp only[h1,if_true,Int.ediv_one];split <;> lia
theorem aW3 {v:Value}{o:Option Int}{Q:Option Int->Shared->Prop}(p:IsPart v o)(h:Q o s):wpAny (model prog w) A (Builtin.Slice.slicePartIndex v) Q E s:=by
 cases p with
 | none=>exact slicePart_none h
 | int i t=>exact slicePart_int h
theorem p8 {sl:Addr}{vl vu:Value}{lo hi:Option Int}{n:Nat}{Q:Int×Int×Nat->Shared->Prop}(r:s.heap.IsSliceOf sl vl vu .none)(pl:IsPart vl lo)(g:IsPart vu hi)
  (h:Q (((sIx n 0 lo:Nat):Int),1,sIx n n hi-sIx n 0 lo) s):wpAny (model prog w) A (Builtin.Slice.sliceApplied (.ref sl) (pure (n:Int))) Q E s:=by
 obtain⟨os,y,z,e⟩:=id r;unfold Builtin.Slice.sliceApplied Builtin.Slice.sliceFields;refine Aa (Aa (wpAny_field y e (x:=vl) rfl (Aa (wpAny_field y e (x:=vu) rfl (Aa (wpAny_field y e (x:=.none) rfl (Ab ?_)))))));refine Aa (slicePart_none ?_);show wpAny _ _ (if((1:Int)==0)=true then _ else _) _ _ s;rw[Ac (by decide)]
 refine Aa (aW3 pl (Aa (aW3 g (Aa (Ab ?_)))));show wpAny _ _ (match Builtin.Slice.sliceAdjust lo hi 1 (n:Int) with | (lo,hi)=>pure (lo,(1:Int),Builtin.Slice.slicePlaces lo hi 1)) _ _ s
 rw[bU6 lo hi n];show wpAny _ _ (pure (((sIx n 0 lo:Nat):Int),(1:Int),Builtin.Slice.slicePlaces ((sIx n 0 lo:Nat):Int) ((sIx n n hi:Nat):Int) 1)) _ _ s;rw[bU2];exact Ab h
theorem cR0 (xs:AH)(i k:Nat):((List.range k).filterMap λ(m:Nat)=>xs[((i:Int)+(m:Int)*1).toNat]?).toArray=((xs.toList.drop i).take k).toArray:=by
 have e:(λ(m:Nat)=>xs[((i:Int)+(m:Int)*1).toNat]?)=λm=>xs[i+m]? := by
  funext m
  have:((i:Int)+(m:Int)*1).toNat=i+m:=by lia
  rw[this]
 rw[e]
 have:=pick_run xs i k
 rw[Dm]at this;have y:((λx=>xs[x]?) ∘ λx=>i+x)=λm=>xs[i+m]? := rfl
 rw[y]at this;rw[this]
theorem aM5 {t sl:Addr}{items:AH}{vl vu:Value}{lo hi:Option Int}{Q:Dy}(y:IsTup s.heap t items)(Y:s.heap.IsSliceOf sl vl vu .none)(pl:IsPart vl lo)(J:IsPart vu hi)
  (U:¬(sIx items.size 0 lo=0/\sIx items.size items.size hi=items.size))
  (h:Q (.ref s.heap.objs.size) {s with heap:=s.heap.push {cls:=.type "tuple",data:=.seq ((items.toList.drop (sIx items.size 0 lo)).take (sIx items.size items.size hi-sIx items.size 0 lo)).toArray}})
  (hsz:items.size<=sizeLine):wpAny (model prog w) A (getItem (.ref t) (.ref sl)) Q E s:=by
 have e:sizeOk (.seq ((items.toList.drop (sIx items.size 0 lo)).take (sIx items.size items.size hi-sIx items.size 0 lo)).toArray):=by
  show((items.toList.drop (sIx items.size 0 lo)).take (sIx items.size items.size hi-sIx items.size 0 lo)).toArray.size<=sizeLine
  rw[Ab2,Ad1,Ay,Ap]
  lia
 have M:sIx items.size items.size hi<=items.size:=dY8 _ _ (Aa7 _) hi
 obtain⟨os,k,r,X⟩:=id Y;have z:s.TypeIs (.ref sl) "slice" := ⟨os,k,r⟩;unfold getItem
 try with_reducible refine Bp ?_
 first | refine Aa (Ab ?_) | skip
 refine Aa (wpAny_sequenceKey y.typeIs (by decide) ?_)
 refine Aa (Cf (name:=Str.ofString "__getitem__") y.typeIs Br
  (Cj Br y.typeIs entry_tuple_getitem ?_ (args_tuple_getitem _ _)))
 show wpAny _ _ (Builtin.Tuple.tupleItemsOf (.ref t) >>= _) _ _ s
 refine Aa (tupleItemsOf_ y ?_);refine Aa (wpAny_typeOf z ?_);rw[Ae (by decide)]
 refine Aa (p8 Y pl J ?_);have g:¬((((sIx items.size 0 lo:Nat):Int)==0&&(1:Int)==1&&(sIx items.size items.size hi-sIx items.size 0 lo)==items.size)=true):=by
  intro q;rw[Bc,Bc]at q;have N:((sIx items.size 0 lo:Nat):Int)=0:=eq_of_beq q.1.1;have R:sIx items.size items.size hi-sIx items.size 0 lo=items.size:=eq_of_beq q.2;exact U ⟨by lia,by lia⟩
 show wpAny _ _ (if(((sIx items.size 0 lo:Nat):Int)==0&&(1:Int)==1&&(sIx items.size items.size hi-sIx items.size 0 lo)==items.size)=true then _ else _) _ _ s
 rw[Ac g,cR0];first
  | exact Aa (m:=Builtin.Tuple.tupleExact _) (Dg (Ab ⟨_,rfl,Ab h⟩) e)
  | exact Aa (m:=Builtin.Tuple.tupleExact _) (Dg (Aa (Ab (Ab ⟨_,rfl,Ab h⟩))) e)
  | exact Aa (Aa (m:=Builtin.Tuple.tupleExact _) (Dg (Ab (Ab ⟨_,rfl,Ab h⟩)) e))
  | exact Aa (Aa (m:=Builtin.Tuple.tupleExact _) (Dg (Ab ⟨_,rfl,Ab h⟩) e))
end
end HT
namespace L2
open PySem PySem.Spec PyProof.Rows
abbrev TO:=St->Hp->(Option Int->Hp->Prop)->Prop
structure PO (X:Cx)(e:Option Expr)(t:TO):Prop where
 mk ::
 run :
  ∀(aA:Dz) (s:Shared) (σ:St) (H:Hp) (Q:Option Int->Hp->Prop),Inv X aA σ H s->t σ H Q ->
   wpAny (model X.prog X.w) X.A (evalPart e X.env) (λu s'=>∃o H',Inv X aA σ H' s'/\IsPart u o/\Q o H') X.xe s
instance {X:Cx} {e:Option Expr} {t:TO}:CoeFun (PO X e t) λ_=>
 (∀(aA:Dz) (s:Shared) (σ:St) (H:Hp) (Q:Option Int->Hp->Prop),Inv X aA σ H s->t σ H Q ->
  wpAny (model X.prog X.w) X.A (evalPart e X.env) (λu s'=>∃o H',Inv X aA σ H' s'/\IsPart u o/\Q o H') X.xe s):=⟨PO.run⟩
def aV3:TO:=λ_ H Q=>Q none H
def dO0 (t:TE):TO:=λσ H Q=>t σ H λx H1=>∃i,x=.int i/\Q (some i) H1
section
variable {X:Cx}{e:Expr}{te:TE}{lo hi:Option Expr}{tl th:TO}{pos p2:Pos}
theorem X0:PO X none aV3:=by
 refine⟨?_⟩;intro y s σ H Q I h;rw[evalPart_none];exact Ab ⟨none,H,I,.none,h⟩
theorem X5 (h:PE X e te):PO X (some e) (dO0 te):=by
 refine⟨?_⟩;intro r s σ H Q I g;rw[evalPart_some];refine thn (h r s σ H _ I g) λu Y ⟨x,y,z,m,k⟩=>?_
 obtain⟨i,rfl,q⟩:=k;obtain⟨t,rfl⟩:=m;exact⟨some i,y,z,.int i t,q⟩
def SlR (X:Cx)(r:V->Option Int->Option Int->Hp->VK->Prop):Prop:=
 ∀(aA:Dz) (s:Shared) (σ:St) (H:Hp) (x:V) (v vl vu:Value) (lo hi:Option Int) (sl:Addr) (Q:VK),Inv X aA σ H s->RelV x v->s.heap.IsSliceOf sl vl vu .none->IsPart vl lo->IsPart vu hi->r x lo hi H Q ->
  ∃T id,typeLookup (.type T) "__getitem__" = pure (some (.builtin id))/\s.TypeIs v T/\wpAny (model X.prog X.w) X.A (getItem v (.ref sl)) (EP X aA σ Q) X.xe s
def tSl (r:V->Option Int->Option Int->Hp->VK->Prop)(te:TE)(tl th:TO):TE:=λσ H Q=>te σ H λx H1=>tl σ H1 λl H2=>th σ H2 λu H3=>r x l u H3 Q
theorem S0 {r:V->Option Int->Option Int->Hp->VK->Prop}(P:SlR X r)(F:PE X e te)(B:PO X lo tl)(hu:PO X hi th):PE X (.Subscript e (.Slice lo hi none p2) pos) (tSl r te tl th):=by
 refine⟨?_⟩;intro z s σ H Q I h;refine Subscript_ (thn (F z s σ H _ I h) λv s1 ⟨x,Y,J,r1,q1⟩=>?_)
 refine wpAny_Slice (thn (B z s1 σ Y _ J q1) λg s2 ⟨l,U,M,pl,q2⟩=>thn (hu z s2 σ U _ M q2) λk y ⟨u,m,N,pu,q3⟩=>?_)
 rw[evalPart_none];refine Ab ?_;have R:Inv X z σ m {y with heap:=y.heap.push {cls:=.type "slice",data:=.fields #[g,k,.none]}}:=N.kept (t':=y.toks) λb ob q=>Aa6 _ q
 obtain⟨T,id,D,ht,hg⟩:=P z {y with heap:=y.heap.push {cls:=.type "slice",data:=.fields #[g,k,.none]}} σ m x v g k l u y.heap.objs.size Q R r1 (Heap.IsSliceOf.new ..) pl pu q3
 show wpAny (model X.prog X.w) X.A (subscriptTail e (.Slice lo hi none p2) v (.ref y.heap.objs.size)) (EP X z σ Q) X.xe {y with heap:=y.heap.push {cls:=.type "slice",data:=.fields #[g,k,.none]}}
 exact tail_any (ops:=[.ref y.heap.objs.size,v]) ht D hg (by with_unfolding_all rfl)
def bL5 (xs:List V)(lo hi:Option Int):List V:=(xs.drop (HT.sIx xs.length 0 lo)).take (HT.sIx xs.length xs.length hi-HT.sIx xs.length 0 lo)
theorem aS5 (xs:List V)(lo hi:Option Int):(bL5 xs lo hi).length<=xs.length:=by
 unfold bL5;rw[Ad1,Ay]
 lia
def eK7 (K:Frag):V->Option Int->Option Int->Hp->VK->Prop:=λx lo hi H Q=>∃a xs,x=.ref a/\SqT K H a xs /\
 ¬(HT.sIx xs.length 0 lo=0/\HT.sIx xs.length xs.length hi=xs.length)/\∀p,H p=none->Q (.ref p) (upd H p (.tup (bL5 xs lo hi)))
theorem dV1:SlR X (eK7 X.K):=by
 intro N s σ H x v F B lo hi D Q I M k U J h;obtain⟨a,xs,rfl,Y,m,q⟩:=h;cases M;obtain⟨its,r,z,g⟩:=I.tuple Y;have y:its.toArray.size=xs.length:=by rw[Ab2];exact r.length.symm
 refine⟨"tuple",_,Br.lookup,z.typeIs,?_⟩;refine HT.aM5 z k U J (by rw[y];exact m) ?_ (by rw[y];exact g)
 rw[y];refine⟨.ref s.heap.objs.size,_,I.laid (t':=s.toks) (o:=.tup (bL5 xs lo hi)) (λb R q=>Aa6 _ q) (Aa7 _) ?_,rfl,q _ (I.hok.fresh (Aa7 _))⟩
 exact⟨Bf (aS5 xs lo hi) g,_,(r.drop (HT.sIx xs.length 0 lo)).take (HT.sIx xs.length xs.length hi-HT.sIx xs.length 0 lo),Tup0.nw _ _ _⟩
def cM8 (K:Frag):R2:=λx y H Q=>∃a b xs ys,x=.ref a/\y=.ref b/\SqT K H a xs/\SqT K H b ys/\xs≠[]/\xs.length+ys.length<=sizeLine /\
 (ys=[]->Q (.ref a) H)/\(ys≠[]->∀p,H p=none->Q (.ref p) (upd H p (.tup (xs++ys))))
theorem Vals.nil_iff {xs:List V}{us:AF}(r:Vals xs us):us=[]↔xs=[]:=by
 cases r with
 | nil=>simp
 | cons _ _=>simp
theorem dF7:OpR X (binaryOp .Add) (cM8 X.K):=by
 intro P s σ H x y v u Q I D F h;obtain⟨a,b,xs,B,rfl,rfl,Y,U,J,k,N,R⟩:=h;cases D;cases F;obtain⟨its,g,M,_⟩:=I.tuple Y;obtain⟨m,r,p2,_⟩:=I.tuple U;refine HT.dH7 M p2 (λz=>J (g.nil_iff.mp z)) (λz=>⟨.ref a,H,I,rfl,N (r.nil_iff.mp z)⟩) (λz=>?_) (by rw[<- g.length,<- r.length];exact k)
 refine⟨.ref s.heap.objs.size,_,I.laid (t':=s.toks) (o:=.tup (xs++B)) (λb ob q=>Aa6 _ q) (Aa7 _) ?_,rfl,R (λw=>z (r.nil_iff.mpr w)) _ (I.hok.fresh (Aa7 _))⟩
 exact⟨by rw[Ab7];exact k,_,g.append r,Tup0.nw _ _ _⟩
end
def ixN (n:Nat)(i:Int):Option Nat:=if 0<=i then(if i<n then some i.toNat else none) else if -(n:Int)<=i then some (i+n).toNat else none
def atI {α:Type}(xs:List α)(i:Int):Option α:=(ixN xs.length i).bind λj=>xs[j]?
theorem cB8 {n:Nat}{i:Int}{j:Nat}(h:ixN n i=some j):seqIndex? i n=some j/\j<n /\ -(n:Int)<=i/\i<n:=by
 unfold ixN at h;by_cases y:0<=i
 .rw[Ae y]at h;by_cases h1:i<n
  .rw[Ae h1]at h;have e:i.toNat=j:=Ab4 h;exact⟨by rw[seqIndex_of y h1,e],by lia,by lia,h1⟩
  .rw[Ac h1]at h;cases h
 .rw[Ac y]at h;by_cases h1 : -(n:Int)<=i
  .rw[Ae h1]at h;have e:(i+n).toNat=j:=Ab4 h;exact⟨by rw[seqIndex_neg (by lia) h1,e],by lia,h1,by lia⟩
  .rw[Ac h1]at h;cases h
theorem bL6 {α:Type}{xs:List α}{i:Int}{v:α}(h:atI xs i=some v):∃j,seqIndex? i xs.length=some j/\xs[j]? = some v/\j<xs.length /\ -(xs.length:Int)<=i/\i<xs.length:=by
 unfold atI at h;cases e:ixN xs.length i with
 | none=>rw[e]at h;cases h
 | some j=>
  rw[e]at h;obtain⟨h1,y,z,r⟩:=cB8 e;exact⟨j,h1,h,y,z,r⟩
def dI6 (b:Expr):Prop:=∀o i,subscripted b false o i=operate [o,i] (getItem o i)
def IxR (X:Cx)(r:R2):Prop:=
 ∀(value slice:Expr) (aA:Dz) (s:Shared) (σ:St) (H:Hp) (x y:V) (v u:Value) (Q:VK),Inv X aA σ H s->RelV x v->RelV y u->r x y H Q ->
  subscripted slice false v u=operate [v,u] (getItem v u)->wpAny (model X.prog X.w) X.A (subscriptTail value slice v u) (EP X aA σ Q) X.xe s
def MtR (X:Cx)(id:String)(r:V->List V->Hp->VK->Prop):Prop:=
 ∀(aA:Dz) (s:Shared) (σ:St) (H:Hp) (x:V) (xs:List V) (v:Value) (us:AF) (Q:VK),Inv X aA σ H s->RelV x v->Vals xs us->r x xs H Q ->
  wpAny (model X.prog X.w) X.A (call (.builtin id) (v::us)) (EP X aA σ Q) X.xe s
section
variable {X:Cx}{a b:Expr}{ta tb:TE}{pos:Pos}
theorem IxR.or {r r':R2}(h:IxR X r)(h':IxR X r'):IxR X (λx y H Q=>r x y H Q\/r' x y H Q):=by
 intro z e g s σ H x y v u Q I m Y q k;rcases q with q | q
 .exact h z e g s σ H x y v u Q I m Y q k
 .exact h' z e g s σ H x y v u Q I m Y q k
theorem B6 {r:R2}(Y:IxR X r)(k:PE X a ta)(m:PE X b tb)(U:dI6 b):PE X (.Subscript a b pos) (tOp r ta tb):=by
 refine⟨?_⟩;intro g s σ H Q I h;exact Subscript_ (dR9 k m I h λv u N x y e z J M q=>Y a b g N σ e x y v u Q z J M q (U _ _))
def eI8 (K:Frag):R2:=λx y H Q=>∃p xs i v,x=.ref p/\y=.int i/\SqL K H p xs/\atI xs i=some v/\Q v H
def eE1 (K:Frag):R2:=λx y H Q=>∃p xs i v,x=.ref p/\y=.int i/\SqT K H p xs/\atI xs i=some v/\Q v H
def eC2:R2:=λx y H Q=>∃z i c,x=.str z/\y=.int i/\z.length<=sizeLine/\atI z.cps.toList i=some c/\Q (.str ⟨#[c]⟩) H
theorem ix_list:IxR X (eI8 X.K):=by
 intro U Y J s σ H x y v u Q I rx ry h R;obtain⟨p,xs,i,z,rfl,rfl,hq,P,q⟩:=h;cases rx;obtain⟨t,rfl⟩:=ry;obtain⟨its,r,k,hz⟩:=I.list hq;obtain⟨j,h1,D,h3,F,B⟩:=bL6 P;obtain⟨w,M,m⟩:=r.get D;have hl:=r.length;have hn:=aK2;have e:EP X J σ Q w s:=⟨z,H,I,m,q⟩;by_cases N:0<=i
 .have g:i.toNat=j:=by
   rw[seqIndex_of N B]at h1;exact Ab4 h1
  exact item_listR k.isList N (by lia) (by rw[g];simpa using M) e R
 .have g:(i+(its.toArray.size:Int)).toNat=j:=by
   rw[seqIndex_neg (by lia) F]at h1
   rw[Ab2,<- hl];exact Ab4 h1
  exact subscriptTail_builtinR (x:=w) k.isList.typeIs slot_list_getitem.lookup
   (wpAny_getItem_list_neg (Q:=λr s'=>r=w/\EP X J σ Q r s') k.isList (by lia) (by rw[Ab2] <;> lia) (by lia) (by rw[g];simpa using M) ⟨rfl,e⟩) R
theorem ix_tup:IxR X (eE1 X.K):=by
 intro m k Y s σ H x y v u Q I B P h F;obtain⟨p,xs,i,z,rfl,rfl,D,N,q⟩:=h;cases B;obtain⟨t,rfl⟩:=P;obtain⟨its,r,U,hz⟩:=I.tuple D;obtain⟨j,h1,M,h3,h4,h5⟩:=bL6 N;obtain⟨w,J,g⟩:=r.get M;have R:=r.length;have hn:=aK2;have e:EP X Y σ Q w s:=⟨z,H,I,g,q⟩;exact subscriptTail_builtinR (x:=w) U.typeIs slot_tuple_getitem.lookup
  (getItem_tuple (j:=j) (Q:=λr s'=>r=w/\EP X Y σ Q r s') U (by lia) (by lia) (by rw[Ab2,<- R];exact h1) (by simpa using J) ⟨rfl,e⟩) F
theorem dU1:IxR X eC2:=by
 intro r e F s σ H x y v u Q I R D h N;obtain⟨z,i,c,rfl,rfl,hz,J,q⟩:=h;obtain⟨t,rfl⟩:=R;obtain⟨t',rfl⟩:=D;obtain⟨j,h1,m,B,Y,U⟩:=bL6 J;have M:z.cps.toList.length=z.length:=by simp[Str.length]
 rw[M]at h1 Y U;have P:=aK2;exact tail_any (typeIs_str s z t) slot_str_getitem.lookup (getItem_str (c:=c) (by
  have g:decide (i < -(2^63:Int))=false:=Ba (by lia)
  have k:decide (i≥2^63)=false:=Ba (by lia)
  rw[g,k,Bool.or_false]) (by rw[h1];simpa using m) ⟨.str ⟨#[c]⟩,H,I.tok _,⟨_,rfl⟩,q⟩) N
def rIx (K:Frag):R2:=λx y H Q=>eI8 K x y H Q\/eE1 K x y H Q\/eC2 x y H Q
theorem D7:IxR X (rIx X.K):=ix_list.or (ix_tup.or dU1)
theorem bV1 (its:AF)(n j:Nat)(u:Value):Obj.mapSeq (·.setIfInBounds j u) {cls:=.type "list",data:=.seq its.toArray n}={cls:=.type "list",data:=.seq (its.set j u).toArray n}:=by
 simp[Obj.mapSeq]
theorem Inv.lst {aA:Dz}{σ:St}{H:Hp}{s:Shared}{p:Addr}{xs:List V}(I:Inv X aA σ H s)(h:H p=some (.lst xs)) :
  ∃(its:AF) (n:Nat),Vals xs its/\s.heap.get? p=some {cls:=.type "list",data:=.seq its.toArray n}/\xs.length<=sizeLine:=by
 obtain⟨z,its,n,r,e⟩:=I.hok p _ h;exact⟨its,n,r,e,z⟩
theorem Inv.lstUpd {aA:Dz}{σ:St}{H:Hp}{s:Shared}{p:Addr}{xs ys:List V}{its its':AF}{n n':Nat}{f:Obj->Obj}(I:Inv X aA σ H s)(h:H p=some (.lst xs))
  (ho:s.heap.get? p=some {cls:=.type "list",data:=.seq its.toArray n}) (y:f {cls:=.type "list",data:=.seq its.toArray n}={cls:=.type "list",data:=.seq its'.toArray n'}) (r:Vals ys its') (g:ys.length<=sizeLine) (t:Nat) :
  Inv X aA σ (upd H p (.lst ys)) {s with heap:=s.heap.update p f,toks:=t}:=by
 have e:(s.heap.update p f).get? p=some {cls:=.type "list",data:=.seq its'.toArray n'}:=by
  rw[De f ho (by rw[y] <;> rfl),y]
 refine I.write (x:=p) (e:=p) (by rw[h];trivial) (.inl rfl) (λb u z q=>(Dk _ _ (Ne.symm z)).trans q) ⟨_,e⟩ ?_
 exact⟨g,its',n',r,e⟩
def cN5:V->V->V->Hp->(Hp->Prop)->Prop:=λo i v H Q=>∃p xs k j,o=.ref p/\i=.int k/\H p=some (.lst xs)/\ixN xs.length k=some j/\Q (upd H p (.lst (xs.set j v)))
theorem aM6:eD6 X cN5:=by
 intro U s σ H o i v ov P u Q I R N D h;obtain⟨p,xs,k,j,rfl,rfl,hp,J,q⟩:=h;cases R;obtain⟨t,rfl⟩:=N;obtain⟨its,n,r,ho,M⟩:=I.lst hp;obtain⟨h1,F,m,Y⟩:=cB8 J;have y:=r.length;have B:=aK2;have z:Inv X U σ (upd H p (.lst (xs.set j v))) {s with heap:=s.heap.update p (Obj.mapSeq (·.setIfInBounds j u))}:=
  I.lstUpd hp ho (bV1 its n j u) (r.set D j) (by rw[Dl];exact M) s.toks
 by_cases g:0<=k
 .have e:k.toNat=j:=by
   rw[seqIndex_of g Y]at h1;exact Ab4 h1
  exact PySem.W.ki_setAt ho g (by lia) (by rw[Ab2,<- y];exact Y) (by rw[e];exact⟨_,z,q⟩)
 .have e:(k+(its.toArray.size:Int)).toNat=j:=by
   rw[seqIndex_neg (by lia) m]at h1
   rw[Ab2,<- y];exact Ab4 h1
  exact PySem.W.ki_setBack ho (by lia) (by rw[Ab2,<- y];exact m) (by lia) (by rw[e];exact⟨_,z,q⟩)
theorem bH7 (lo hi:Option Int)(n:Nat):(sliceBounds lo hi none n).1=((HT.sIx n 0 lo:Nat):Int)/\(sliceBounds lo hi none n).2.1=((HT.sIx n n hi:Nat):Int)/\(sliceBounds lo hi none n).2.2=1:=by
 refine⟨?_,?_,rfl⟩
 .cases lo with
  | none=>simp[sliceBounds,HT.sIx]
  | some i=>
   simp only[sliceBounds,HT.sIx,Option.getD_none,show(1:Int)>0 by decide,if_true]
   by_cases h:i<0
   .simp only[h,if_true] <;> lia
   .simp only[h,if_false] <;> lia
 .cases hi with
  | none=>simp[sliceBounds,HT.sIx]
  | some i=>
   simp only[sliceBounds,HT.sIx,Option.getD_none,show(1:Int)>0 by decide,if_true]
   by_cases h:i<0
   .simp only[h,if_true] <;> lia
   .simp only[h,if_false] <;> lia
theorem bA5 (its:AF)(lo hi:Option Int):slicePick its.toArray lo hi none=((its.drop (HT.sIx its.length 0 lo)).take (HT.sIx its.length its.length hi-HT.sIx its.length 0 lo)).toArray:=by
 obtain⟨h1,e,y⟩:=bH7 lo hi its.toArray.size;unfold slicePick;rw[h1,e,y];simp only[sliceRange_one,pick_run,Ab2] <;> rfl
def dW4 (K:Frag):V->Option Int->Option Int->Hp->VK->Prop:=λx lo hi H Q=>∃a xs,x=.ref a/\SqL K H a xs/\∀p,H p=none->Q (.ref p) (upd H p (.lst (bL5 xs lo hi)))
theorem aU7:SlR X (dW4 X.K):=by
 intro J s σ H x v R D lo hi N Q I U z m Y h;obtain⟨a,xs,rfl,g,q⟩:=h;cases U;obtain⟨its,r,y,k⟩:=I.list g;have e:=r.length;refine⟨"list",_,slot_list_getitem.lookup,y.isList.typeIs,?_⟩;refine wpAny_getItem_list_slice y.isList z m Y .none (by simp) ?_ (by rw[Ab2] <;> lia)
 rw[bA5,<- e];refine⟨.ref s.heap.objs.size,_,I.laid (t':=s.toks) (o:=.lst (bL5 xs lo hi)) (λb M q=>Aa6 _ q) (Aa7 _) ?_,rfl,q _ (I.hok.fresh (Aa7 _))⟩
 exact⟨Bf (aS5 xs lo hi) k,_,0,(r.drop (HT.sIx xs.length 0 lo)).take (HT.sIx xs.length xs.length hi-HT.sIx xs.length 0 lo),Ac3 _ rfl⟩
theorem N8:T0 X (.builtin "len") (λxs H Q=>∃p ys,xs=[.ref p]/\(SqL X.K H p ys\/SqT X.K H p ys)/\Q (.int ys.length) H):=by
 intro m s σ H xs U Q I r h;obtain⟨p,ys,rfl,hq,q⟩:=h;obtain⟨u,rfl,k⟩:=V7 r;cases k;have Y:=aK2;rcases hq with hq | hq
 .obtain⟨its,z,y,g⟩:=I.list hq;have e:=z.length;exact Calls.call_len_list y.isList (by simp only[Ab2] <;> lia) ⟨.int ys.length,H,I.tok _,⟨s.toks+1,by rw[Ab2,e]⟩,q⟩
 .obtain⟨its,z,y,g⟩:=I.tuple hq;have e:=z.length;exact len_tuple y (by simp only[Ab2] <;> lia) ⟨.int ys.length,H,I.tok _,⟨s.toks+1,by rw[Ab2,e]⟩,q⟩
theorem X2:T0 X (.builtin "len") (λxs H Q=>∃z,xs=[.str z]/\z.length<=sizeLine/\Q (.int z.length) H):=by
 intro e s σ H xs k Q I r h;obtain⟨z,rfl,g,q⟩:=h;obtain⟨u,rfl,t,rfl⟩:=V7 r;have y:=aK2;exact len_str (by lia) ⟨.int z.length,H,I.tok _,⟨_,rfl⟩,q⟩
theorem bG7:T0 X (.type "list") (λxs H Q=>∃p ys,xs=[.ref p]/\(SqL X.K H p ys\/SqT X.K H p ys)/\∀l,H l=none->Q (.ref l) (upd H l (.lst ys))):=by
 intro D s σ H xs B Q I r h;obtain⟨p,ys,rfl,hq,q⟩:=h;obtain⟨u,rfl,F⟩:=V7 r;cases F;have k:∀(its:AF),Vals ys its->ys.length<=sizeLine->∀(y:Heap) (z:Nat),(∀b R,s.heap.get? b=some R->y.get? b=some R) ->
   y.get? s.heap.objs.size=some {cls:=.type "list",dict:=none,data:=.seq its.toArray z,slots := #[]}->EP X D σ Q (.ref s.heap.objs.size) {s with heap:=y}:=λits g Y y z U e=>
  ⟨.ref s.heap.objs.size,_,I.laid (t':=s.toks) U (Aa7 _) (show ObjOk X.prog X.w _ y _ (.lst ys) from⟨Y,its,z,g,e⟩),rfl,q _ (I.hok.fresh (Aa7 _))⟩
 rcases hq with hq | hq
 .obtain⟨its,g,N,Y⟩:=I.list hq;have m:=g.length;obtain⟨o,ho,J,n,M⟩:=N.isList;exact call_list_seq p (.inl rfl) ho J M (λy z U e=>k its g Y y z U e) (by simp only[Ab2] <;> lia)
 .obtain⟨its,g,N,Y⟩:=I.tuple hq;have m:=g.length;obtain⟨o,ho,J,n,M⟩:=N;exact call_list_seq p (.inr rfl) ho J M (λy z U e=>k its g Y y z U e) (by simp only[Ab2] <;> lia)
theorem aH5:T0 X (.type "tuple") (λxs H Q=>∃p ys,xs=[.ref p]/\((SqL X.K H p ys/\∀l,H l=none->Q (.ref l) (upd H l (.tup ys)))\/(SqT X.K H p ys/\Q (.ref p) H))):=by
 intro Y s σ H xs D Q I r h;obtain⟨p,ys,rfl,h⟩:=h;obtain⟨u,rfl,R⟩:=V7 r;cases R;rcases h with⟨z,q⟩ | ⟨z,q⟩
 .obtain⟨its,k,g,J⟩:=I.list z;have U:=k.length;refine call_tuple_list g.isList (λy N=>?_) (by simp only[Ab2] <;> lia)
  have m:Inv X Y σ H {s with heap:=y}:=I.kept (t':=s.toks) N
  have M:Inv X Y σ (upd H y.objs.size (.tup ys)) {s with heap:=y.push {cls:=.type "tuple",data:=.seq its.toArray}}:=
   m.laid (t':=s.toks) (λb o e=>Aa6 _ e) (Aa7 _) (show ObjOk X.prog X.w _ _ _ (.tup ys) from⟨J,its,k,Tup0.nw _ _ _⟩)
  exact⟨.ref y.objs.size,_,M,rfl,q _ (m.hok.fresh (Aa7 _))⟩
 .obtain⟨its,k,g,J⟩:=I.tuple z;exact call_tuple_same g ⟨.ref p,H,I,rfl,q⟩
def tyV (K:Frag)(T:String)(x:V)(H:Hp):Prop:=match x with
 | .str _=>T = "str"
 | .int _=>T = "int"
 | .ref p=>(T = "list" /\ ∃xs,SqL K H p xs)\/(T = "tuple" /\ ∃xs,SqT K H p xs) \/
   (T = "dict" /\ ((∃kvs,H p=some (.dK kvs))\/∃kvs,H p=some (.dT kvs)))\/(T = "set" /\ ∃S n,H p=some (.set S n))
 | _=>False
theorem cZ3 {aA:Dz}{σ:St}{H:Hp}{s:Shared}{T:String}{x:V}{v:Value}(I:Inv X aA σ H s)(r:RelV x v)(ty:tyV X.K T x H) :
  s.TypeIs v T/\∀a,v=.ref a->∃ob,s.heap.get? a=some ob/\ob.dict=none:=by
 cases x with
 | str z=>
  obtain⟨t,rfl⟩:=r;cases (show T = "str" from ty)
  exact⟨typeIs_str s z t,λ_ e=>nomatch e⟩
 | int i=>
  obtain⟨t,rfl⟩:=r;cases (show T = "int" from ty)
  exact⟨typeIs_int s i t,λ_ e=>nomatch e⟩
 | ref p=>
  cases r
  rcases ty with⟨rfl,xs,m⟩ | ⟨rfl,xs,m⟩ | ⟨rfl,g⟩ | ⟨rfl,S,n,g⟩
  .obtain⟨its,_,Y,_⟩:=I.list m;refine⟨Y.isList.typeIs,λa e=>?_⟩
   cases e
   obtain⟨o,n,e,c,M,_⟩:=Y;exact⟨o,e,M⟩
  .obtain⟨its,_,N,_⟩:=I.tuple0 m;obtain⟨o,h1,U,_,J⟩:=N;refine⟨⟨o,h1,U⟩,λa e=>?_⟩
   cases e
   exact⟨o,h1,J⟩
  .have z:∃o,s.heap.get? p=some o/\o.ExactDict:=by
    rcases g with⟨kvs,g⟩ | ⟨kvs,g⟩
    .obtain⟨_,_,_,_,o,_,_,e,y,_⟩:=I.hok p _ g;exact⟨o,e,y⟩
    .obtain⟨_,_,_,_,o,_,_,e,y,_⟩:=I.hok p _ g;exact⟨o,e,y⟩
   obtain⟨o,e,y⟩:=z;refine⟨⟨o,e,y.1⟩,λa k=>?_⟩
   cases k
   exact⟨o,e,y.2.1⟩
  .obtain⟨o,_,_,_,e,y,_⟩:=I.hok p _ g;refine⟨⟨o,e,y.1⟩,λa k=>?_⟩
   cases k
   exact⟨o,e,y.2.1⟩
 | _=>exact False.elim ty
def dZ4 (K:Frag)(T:String)(r:V->List V->Hp->VK->Prop)(to:TE):TE:=λσ H Q=>to σ H λx H1=>tyV K T x H1/\r x [] H1 Q
def tBM (K:Frag)(T:String)(r:V->List V->Hp->VK->Prop)(to:TE)(t:TA):TE:=λσ H Q=>to σ H λx H1=>tyV K T x H1/\t σ H1 λxs H2=>r x xs H2 Q
variable {o e:Expr}{es:AL}{to:TE}{t:TA}{name:Str}{apos cpos:Pos}{T id:String}{r:V->List V->Hp->VK->Prop}
theorem aP8 (pa:PlainAttrs T)(slot:Slot T name id)(g:typeOf (.builtin id)=pure (.type "method_descriptor"))(M:MtR X id r)(ho:PE X o to)
  (y:attributeBase o name X.env (eval o X.env)=eval o X.env:=by rfl) (z:(apos.endLine==cpos.line)=true:=by rfl):PE X (.Call (.Attribute o name apos) [] [] cpos) (dZ4 X.K T r to):=by
 refine⟨?_⟩;intro m s σ H Q I h;refine wpAny_Call_method0_late y z (thn (ho m s σ H _ I h) λv R ⟨x,U,k,Y,ty,N⟩=>?_)
 obtain⟨h1,J⟩:=cZ3 k Y ty;exact⟨T,id,pa,slot,g,h1,J,Calls.callWith_builtin rfl (PySem.evalArgs_none (M m R σ U x [] v [] Q k Y .nil N))⟩
theorem J9 (pa:PlainAttrs T)(slot:Slot T name id)(Y:typeOf (.builtin id)=pure (.type "method_descriptor"))(P:MtR X id r)(ho:PE X o to)(B:PA X (e::es) t)
  (z:attributeBase o name X.env (eval o X.env)=eval o X.env:=by rfl)
  (k:((backTo cpos (starEach (e::es) X.env)).all (λx => !x.1)&&(backToKw cpos (keywordEach [] X.env)).all (λx=>x.1.isSome)
   && decide ((e::es).length+([]:List Keyword).length+(if([]:List Keyword).isEmpty then 0 else 1)<30))=true:=by rfl)
  (g:(apos.endLine==cpos.line)=true:=by rfl) (hs:starEach (e::es) X.env=(false,eval e X.env)::starEach es X.env:=by rfl) (y:(backTo cpos (starEach es X.env)).any (·.1)=false:=by rfl) :
  PE X (.Call (.Attribute o name apos) (e::es) [] cpos) (tBM X.K T r to t):=by
 refine⟨?_⟩;intro m s σ H Q I h;refine wpAny_Call_method_late z k g rfl (thn (ho m s σ H _ I h) λv s1 ⟨x,N,U,M,ty,q1⟩=>?_)
 obtain⟨h1,F⟩:=cZ3 U M ty;refine⟨T,id,pa,slot,Y,h1,F,?_⟩;have J:=B cpos m s1 σ N _ U q1;rw[hs]at J ⊢;refine Calls.callWith_builtin (by show(false||(backTo cpos (starEach es X.env)).any (·.1))=false;rw[y] <;> rfl) (Calls.evalArgs_plain ?_)
 exact thn J λus s2 ⟨vs,R,D,r2,q2⟩=>P m s2 σ R x vs v us Q D M r2 q2
end
def MtM (X:Cx)(id:String)(r:V->List V->Hp->VK->Prop):Prop:=
 ∀(aA:Dz) (s:Shared) (σ:St) (H:Hp) (x:V) (xs:List V) (v:Value) (us:AF) (Q:VK),Inv X aA σ H s->RelV x v->Vals xs us->r x xs H Q ->
  wpAny (model X.prog X.w) X.A (call (.builtin id) (v::us)) (EP X aA σ Q) X.xe s
theorem Vals.one:∀{x:V} {us:AF},Vals [x] us->∃u,us=[u]/\RelV x u
 | _,_,.cons r .nil=>⟨_,rfl,r⟩
theorem Vals.zero:∀{us:AF},Vals [] us->us=[]
 | _,.nil=>rfl
theorem Vals.dropLast {xs:List V}{us:AF}(h:Vals xs us):Vals xs.dropLast us.dropLast:=by
 induction h with
 | nil=>exact .nil
 | cons r t e=>
  cases t with
  | nil=>exact .nil
  | cons q y=>exact .cons r e
theorem Vals.rep {xs:List V}{us:AF}(h:Vals xs us):∀k:Nat,Vals (List.replicate k xs).flatten (List.replicate k us).flatten
 | 0=>.nil
 | k+1=>by
  rw[Bh,Bh,Ci,Ci];exact Vals.append h (Vals.rep h k)
theorem bZ1 {α:Type}(l:List α):l.eraseIdx (l.length-1)=l.dropLast:=by
 induction l with
 | nil=>rfl
 | cons a r y=>
  cases r with
  | nil=>rfl
  | cons b r=>
   have e:(a::b::r).length-1=((b::r).length-1)+1:=by
    have h1:(a::b::r).length=r.length+2:=rfl
    have z:(b::r).length=r.length+1:=rfl
    lia
   rw[e,List.eraseIdx_cons_succ,y]
   all_goals rfl
theorem bE6 (its:AF):∀(k:Nat) (acc:AF),
  List.foldl (λx1 x2=>x1++x2) acc.toArray (List.replicate k its.toArray)=(acc++(List.replicate k its).flatten).toArray
 | 0,acc=>by simp
 | k+1,acc=>by
  have e:acc.toArray++its.toArray=(acc++its).toArray:=by simp
  have y:(acc++its)++(List.replicate k its).flatten=acc++(List.replicate (k+1) its).flatten:=by
   rw[Bh,Ci,Ad7]
  rw[<- y,<- bE6 its k (acc++its),<- e,Bh,List.foldl_cons]
section
variable {X:Cx}{aA:Dz}{σ:St}{H:Hp}{s:Shared}{l b:Addr}{xs ys zs:List V}
theorem Inv.lset {its its':AF}{n:Nat}{f:AH->AH}{t':Nat}(I:Inv X aA σ H s)(y:H l=some (.lst xs))
  (e:s.heap.get? l=some {cls:=.type "list",data:=.seq its.toArray n}) (r:f its.toArray=its'.toArray) (k:Vals ys its') (m:ys.length<=sizeLine) :
  Inv X aA σ (upd H l (.lst ys)) {s with heap:=s.heap.update l (Obj.mapSeq f),toks:=t'}:=by
 have q:=PySem.IsL.update e f
 rw[r]at q;refine I.write (x:=l) (e:=l) (by rw[y];exact trivial) (.inl rfl) (λY u z g=>(Dk s.heap (Obj.mapSeq f) (Ne.symm z)).trans g) ⟨_,q⟩ ?_
 exact⟨m,its',_,k,q⟩
theorem Inv.lnew {its:AF}{t':Nat}(I:Inv X aA σ H s)(e:Vals ys its)(y:ys.length<=sizeLine) :
  Inv X aA σ (upd H s.heap.objs.size (.lst ys)) {s with heap:=s.heap.push {cls:=.type "list",data:=.seq its.toArray},toks:=t'}:=
 I.laid (λ_ _ q=>Aa6 _ q) (Aa7 _) ⟨y,its,0,e,Ac3 _ rfl⟩
theorem Inv.fresh (I:Inv X aA σ H s):H s.heap.objs.size=none:=I.hok.fresh (Aa7 _)
theorem Inv.lstM (I:Inv X aA σ H s)(y:H l=some (.lst xs)):xs.length<=sizeLine/\∃(its:AF) (n:Nat),Vals xs its/\xs.length=its.length/\s.heap.get? l=some {cls:=.type "list",data:=.seq its.toArray n}:=by
 obtain⟨z,its,n,r,e⟩:=I.hok l _ y;exact⟨z,its,n,r,r.length,e⟩
theorem bO5 {n:Nat}(h:n<=sizeLine):Builtin.List.listTooLong n=false:=by
 unfold Builtin.List.listTooLong;exact Ba (by lia)
end
section
variable {X:Cx}
def aM9:V->List V->Hp->VK->Prop:=λx vs H Q=>∃l xs y,x=.ref l/\vs=[y]/\H l=some (.lst xs)/\xs.length<sizeLine/\Q .non (upd H l (.lst (xs++[y])))
theorem D9:MtM X "list.append" aM9:=by
 intro U s σ H x vs v N Q I Y m h;obtain⟨l,xs,y,rfl,rfl,g,M,q⟩:=h;cases Y;obtain⟨u,rfl,k⟩:=m.one;obtain⟨z,its,n,r,J,e⟩:=I.lstM g;refine call_meets F.slot_list_append ⟨_,e,rfl⟩ F.entry_list_append (F.args_list_append_2 _ _) (PySem.list_append l its.toArray n u (by rw[Ab2];lia)) ⟨e,?_⟩
 refine⟨.non,_,I.lset (its':=its++[u]) g e (by simp) (r.append (.cons k .nil)) ?_,rfl,q⟩
 rw[Ab7,List.length_singleton]
 lia
def cA8:V->List V->Hp->VK->Prop:=λx vs H Q=>∃l b xs zs,x=.ref l/\vs=[.ref b]/\H l=some (.lst xs)/\H b=some (.lst zs)/\xs.length+zs.length<=sizeLine/\Q .non (upd H l (.lst (xs++zs)))
theorem cL5:MtM X "list.extend" cA8:=by
 intro P s σ H x vs v us Q I B D h;obtain⟨l,b,xs,zs,rfl,rfl,m,U,hz,q⟩:=h;cases B;obtain⟨u,rfl,R⟩:=D.one;cases R;obtain⟨z,its,n,r,hl,e⟩:=I.lstM m;obtain⟨z2,y,M,N,J,Y⟩:=I.lstM U;have k:its.toArray.size+y.toArray.size<=sizeLine:=by rw[Ab2,Ab2];lia
 have g:¬(!its.toArray.isEmpty&&Builtin.List.listTooLong (its.toArray.size+y.toArray.size))=true:=by
  rw[bO5 k,Bool.and_false];exact Al
 refine call_meets F.slot_list_extend ⟨_,e,rfl⟩ F.entry_list_extend (F.args_list_extend_2 _ _)
  (AutoSeq1.list_extend_list_list_0 l its.toArray n b y.toArray M g (by rw[Ab2];lia) (by lia)) ⟨e,Y,?_⟩
 refine⟨.non,_,I.lset (its':=its++y) m e (by simp) (r.append N) ?_,rfl,q⟩
 rw[Ab7]
 lia
def dP7:V->List V->Hp->VK->Prop:=λx vs H Q=>∃l xs y,x=.ref l/\vs=[]/\H l=some (.lst xs)/\xs[xs.length-1]? = some y/\Q y (upd H l (.lst xs.dropLast))
theorem aQ9:MtM X "list.pop" dP7:=by
 intro D s σ H x vs v B Q I R N h;obtain⟨l,xs,y,rfl,rfl,m,J,q⟩:=h;cases R;have g:=N.zero;subst g;obtain⟨z,its,n,r,Y,e⟩:=I.lstM m;obtain⟨u,U,M⟩:=r.get J;have k:its.toArray[its.toArray.size-1]? = some u:=by
  show its.toArray[its.length-1]? = some u
  rw[<- Array.getElem?_toList,<- Y];exact U
 refine call_meets F.slot_list_pop ⟨_,e,rfl⟩ F.entry_list_pop (F.args_list_pop_1 _) (MeetsSeq.list_pop_last l its.toArray n u k (by rw[Ab2];lia)) ⟨e,?_⟩
 refine⟨y,_,I.lset (its':=its.dropLast) m e ?_ r.dropLast ?_,M,q⟩
 .show its.toArray.eraseIdxIfInBounds (its.toArray.size-1)=its.dropLast.toArray
  rw[Ab2,List.eraseIdxIfInBounds_toArray,bZ1]
 .rw[List.length_dropLast]
  lia
def eE2:R2:=λx y H Q=>∃l k xs,x=.ref l/\y=.int k/\H l=some (.lst xs) /\ -(2^63)<=k/\k<2^63/\xs.length*k.toNat<=sizeLine /\
 ∀p,H p=none->Q (.ref p) (upd H p (.lst (List.replicate k.toNat xs).flatten))
theorem dH3 {α:Type}(xs:List α)(k:Nat):(List.replicate k xs).flatten.length=k*xs.length:=by
 induction k with
 | zero=>simp
 | succ k e=>rw[Bh,Ci,Ab7,e,Nat.succ_mul,Nat.add_comm]
theorem dA8:OpR X (binaryOp .Mult) eE2:=by
 intro aA s σ H x y v u Q I rx ry h;obtain⟨l,k,xs,rfl,rfl,hH,h1,h2,B,q⟩:=h;cases rx;obtain⟨t,rfl⟩:=ry;obtain⟨z,its,n,r,hl,e⟩:=I.lstM hH;have M:its.toArray.size*k.toNat<=sizeLine:=by rw[Ab2,<- hl];exact B
 have Y:¬its.toArray.size*k.toNat>(2^63-1) / 8:=by
  have:(sizeLine:Nat)<=(2^63-1) / 8:=by decide
  lia
 have J:¬(!Builtin.List.listFitsIndex k)=true:=by
  rw[fitsIndex_both h1 h2];exact Al
 have g:¬Builtin.List.listTooLong (its.toArray.size*k.toNat)=true:=by
  rw[bO5 M];exact Al
 have N:List.foldl (λR D=>R++D) #[] (List.replicate (if its.toArray.isEmpty=true then 0 else k.toNat) its.toArray)=(List.replicate k.toNat its).flatten.toArray:=by
  have P:∀m:Nat,List.foldl (λR D=>R++D) #[] (List.replicate m its.toArray)=(List.replicate m its).flatten.toArray:=λm=>by
   have:=bE6 its m []
   rw[List.nil_append]at this;exact this
  rw[P];cases its with
  | nil=>simp
  | cons a r'=>rw[Ac (by simp)]
 refine wpAny_binaryOp_repeat_ref (T := "list") (U := "int") (by decide) ⟨_,e,rfl⟩ (λs'=>typeIs_int s' k t) noFill_list_mul F.fills_int_mul F.slot_int_rmul repeat_list F.slot_int_index.lookup
  (call_meets F.slot_int_rmul (typeIs_int s k t) F.entry_int_rmul (F.args_int_rmul_2 _ _) (int___rmul___int_list k t l its.toArray n)
   ⟨e,rfl,⟨_,e,rfl⟩,call_meets F.slot_list_mul ⟨_,e,rfl⟩ F.entry_list_mul (F.args_list_mul_2 _ _) (AutoListH.list___mul___list_int_3 l its.toArray n k t J Y g) ⟨e,?_⟩⟩)
 rw[N];exact⟨.ref _,_,I.lnew (t':=s.toks) (r.rep k.toNat) (by rw[dH3,Nat.mul_comm];exact B),rfl,q _ I.fresh⟩
end
end L2
namespace Att
open PySem PySem.W PySem.Calls PyProof.Rows
theorem aT4 {P:Params}{h:Heap}:∀(ns:AC) (vs:AF),WellAll P h vs (ns.map WData.int)->IntsAre vs ns:=by
 intro ns;induction ns with
 | nil=>
  intro vs w;rw[Dq]at w;cases w;exact .nil
 | cons n ns e=>
  intro vs w;rw[Ac7]at w;cases w with
  | cons a b=>
   cases a
   exact .cons _ _ (e _ b)
theorem cH7 {l:OpenLaw}{n:Nat}(J:l.most=some n){P:Params}{h:Heap}{args:List WData}{vals:AF}
  (e:l.row.toRowW.claim.pre args=true) (m:WellAll P h vals args) :
  ∃a vs ns,vals=[Value.ref a]/\args=[WData.list (ns.map WData.int)]/\h.get? a=some {cls:=.type "list",data:=.seq vs.toArray}/\IntsAre vs ns/\ns.length<=n:=by
 have s:WShape.hasAll [] args [.list .int]=true:=(pre_splitW e).1
 have Y:l.pre.holds [] {args:=args}=true:=(pre_splitW e).2
 obtain⟨d,r,rfl,h1,X⟩:=hasAllW_cons s;obtain rfl:=hasAllW_nil X;obtain⟨xs,rfl,U⟩:=hasW_list h1;obtain⟨ns,rfl⟩:=items_int U;have z:ns.length<=n:=by
  unfold OpenLaw.pre at Y;have g:(WTm.not (.lt (.lit (.int (n:Int))) (.len (.arg 0)))).holds [] {args:=[.list (ns.map .int)]}=true:=by
   have g:=(holds_andW Y).1
   rw[J]at g;exact g
  have k:=condW_of g (w_not (w_lt w_lit (w_len_list (w_arg rfl))))
  rw[Aa3]at k;refine Nat.le_of_not_lt λq=>?_
  have M:(n:Int)<((ns.length:Nat):Int):=by lia
  first
   | (rw[Bu M]at k;exact absurd k (by decide))
   | (simp at k;lia)
 cases m with
 | cons N R=>
  cases R
  cases N with
  | list ho y=>exact⟨_,_,ns,rfl,rfl,ho,aT4 ns _ y,z⟩
theorem cI2 (l:OpenLaw)(args:List WData):l.row.toRowW.claim.post args (.bool true) args=true:=
 postW_of (r:=l.row.toRowW) (X:=(true==true))
  (show WShape.has [] (.bool true) .bool=true by first | rfl | decide | simp[WShape.has,WShape.arms,WShape.armsAll])
  (show(WTm.eq .res (.lit (.bool true))).value [] {args:=args,res:=some (.bool true),after:=args}=some (.bool (true==true)) from w_eq_bool (w_res rfl) w_lit) rfl
theorem bR5 {l:OpenLaw}{n:Nat}{q:Program}{loose:AG}{XP:(Str->Option Value)->Heap->Prop}{YP:World->Heap->Prop}{d:DefRec}
  (hn:l.most=some n) (s:d.params.defaults=[])
  (call:∀(w:World) (s₀ s₁:Shared) (mg mb:Str->Option Value) (fa:Addr) (o:Obj) (pm cd doc:Value) (a:Addr) (vs:AF) (ns:AC),
   Ground q loose [] XP w s₀ mg mb s₁.heap->YP w s₁.heap ->
   s₁.heap.get? fa=some o->o.data=.func (docDef d.name d.params d.body d.scope pm cd doc)->s₁.heap.CodeRec cd d.name->mg d.name=some (.ref fa) ->
   s₁.heap.get? a=some {cls:=.type "list",data:=.seq vs.toArray}->IntsAre vs ns->ns.length<=n->s₁.gens = #[] ->
   codeAny (model l.prog w) callerA (.call (.ref fa) ⟨[.ref a],[]⟩) (λr s'=>r=.ok (.ret (.bool true))/\OldK s₁.heap s'.heap/\s'.os=s₁.os/\AllBare s'.gens) s₁) :
  WalkO q loose XP YP l.row.toRowW d [] (λf vs=>PySem.call f vs):=by
 intro w s₀ s₁ mg mb G Y fa o pm cd doc R kV ho B k J m hg U N as g M hrd X P;obtain rfl:R=.none:=Dflts.none J s;obtain rfl:kV=.none:=Dflts.noKw J;obtain⟨a,vs,ns,rfl,rfl,z,e,y⟩:=cH7 hn g X;refine enter_call (codeAny_mono (call w s₀ s₁ mg mb fa o pm cd doc a vs ns G Y ho (fd_plain B) k m z e y hg) λr s' hq=>?_)
 obtain⟨rfl,Q,D,F⟩:=hq;exact⟨.inl ⟨.bool true,.bool true,[],rfl,λ_=>rfl,.bool true,cI2 l _,λ_=>⟨List.Pairwise.nil,λ_ hm=>(nomatch hm)⟩⟩,Q,D,F⟩
end Att
namespace L2
open PySem PySem.Spec PyProof.Rows
theorem U4:∀{vs:AF} {ns:AC},IntsAre vs ns->Vals (ns.map V.int) vs
 | _,_,.nil=>.nil
 | _,_,.cons n t h=>.cons ⟨t,rfl⟩ (U4 h)
def dV4 (H:Hp):Prop:=∀b,H b=none\/∃o xs,H b=some (.frz o (.lst xs))
theorem cT5 {P:Program}{w:World}{K:Frag}{mg mb:Str->Option Value}{CX:CXT}{k:Nat}{fa a:Addr}{fd:FuncData}{x:Str}{sp:Sp}{s₁:Shared}{vs:AF}{ns:AC}
  (KX:K.In s₁.heap) (D:s₁.heap.Ns mainGlobals mg) (g:s₁.heap.Ns builtinsNs mb) (hbb:∀x:Str,x≠"__name__" -> mb x=bootBuiltins x) (Q:s₁.heap.NoLimit) (hg:s₁.gens = #[])
  (ha:s₁.heap.get? a=some {cls:=.type "list",data:=.seq vs.toArray}) (hi:IntsAre vs ns) (hl:ns.length<=sizeLine) (hr:Room k callerA)
  (F:∀base:Heap,K.In base->base.Ns mainGlobals mg->FnOk P w K mg base CX k fa fd [x] sp) (U:∀(s:Shared) (u:Value),BindsTo s fd ⟨[u],[]⟩ [(x,u)])
  (hsp:∀H:Hp,dV4 H->SqL K H a (ns.map V.int)->sp [.ref a] H (λv _=>v=.bl true) λ_ _ _=>False)
  (hCX:∀H e s',CX [] H s₁ (λ_ _ _=>False) e s'->False) :
  codeAny (model P w) callerA (.call (.ref fa) ⟨[.ref a],[]⟩) (λr s'=>r=.ok (.ret (.bool true))/\OldK s₁.heap s'.heap/\s'.os=s₁.os/\AllBare s'.gens) s₁:=by
 have rv:=U4 hi
 have T5:=hi.length
 have X:∀H:Hp,dV4 H->SqL K H a (ns.map V.int)->HOk P w H s₁.heap->(∀b,H b≠none->b=a)->(H a≠none->K.lookup a=none) ->
   codeAny (model P w) callerA (.call (.ref fa) ⟨[.ref a],[]⟩) (λr s'=>r=.ok (.ret (.bool true))/\OldK s₁.heap s'.heap/\s'.os=s₁.os/\AllBare s'.gens) s₁:=by
  intro H hO hS B hA hK;have y:∀{b:Addr} {o:Obj},s₁.heap.get? b=some o->H b=none->(bF7 s₁.heap H).get? b=some o:=λe n=>cY2 e n
  have noA:∀{b:Addr} {o:Obj} {N:Array DictEntry} {M:Nat},s₁.heap.get? b=some o->o.data=.dict N M->H b=none:=λ{b o N M} e d=>by
   cases q:H b with
   | none=>rfl
   | some u=>
    have e':b=a:=hA b (by rw[q];simp)
    subst e';rw[ha]at e;cases e;have d':Data.seq vs.toArray _=Data.dict N M:=d;cases d'
  have Y:∀{b:Addr} {m:Str->Option Value},s₁.heap.Ns b m->(bF7 s₁.heap H).Ns b m:=λ{b m} ⟨o,N,M,e,d,r⟩=>⟨o,N,M,y e (noA e d),d,r⟩
  have R:K.In (bF7 s₁.heap H):=λb o e=>y (KX b o e) (by
   cases q:H b with
   | none=>rfl
   | some u=>
    have e':b=a:=hA b (by rw[q];simp)
    subst e';rw[hK (by rw[q];simp)]at e;cases e)
  have hM:Mod K mg (bF7 s₁.heap H):=⟨R,Y D,⟨mb,Y g,hbb⟩,let ⟨mc,h1,h2⟩:=Q;⟨mc,Y h1,h2⟩⟩
  have e0:Env0 P w K mg (bF7 s₁.heap H) callerA [] s₁ H:=⟨rfl,hM,λb o e=>dE7 e,Nat.le_of_eq (cI9 _ _),trivial,λb g=>absurd (show b∈([]:AK) from g) (by simp),B,.of_eq hg⟩
  refine codeAny_mono ((F _ R (Y D)).run callerA [] s₁ H ⟨[.ref a],[]⟩ [.ref a] [.ref a] _ _ hr e0 (U s₁ (.ref a)) (.cons rfl .nil) (hsp H hO hS)) λr s' h=>?_
  cases r with
  | error e=>exact(hCX H e s' h).elim
  | ok fl=>
   cases fl with
   | next=>exact False.elim h
   | brk=>exact False.elim h
   | cont=>exact False.elim h
   | ret u=>
    obtain⟨v,H',os,J,un,hok',r',q⟩:=h;have q':v=.bl true:=q;subst q';obtain rfl:u=Value.bool true:=r';refine⟨rfl,OldK.of_keep λb o e=>?_,os,J⟩
    cases q:H b with
    | none=>exact un.keep b o e q (by intro z;exact absurd (show b∈([]:AK) from z) (by simp)) (by simp)
    | some u=>
     rcases hO b with z | ⟨ob,xs,z⟩
     .rw[q]at z;cases z
     .have z2:=un.frzs b ob _ z
      obtain⟨e1,_⟩:=B b _ z;obtain⟨e2,_⟩:=hok' b _ z2;rw[e]at e1;cases e1;exact e2
 cases hk:K.lookup a with
 | some o=>
  have e:=KX a o hk
  rw[ha]at e;cases e;refine X (λ_=>none) (λ_=>.inl rfl) (.inr ⟨_,vs.toArray,_,hk,rfl,rfl,rfl,by rw[Ab2,T5];exact hl,by simpa using rv⟩) (λb u z=>by have z':(none:Option HO)=some u:=z;cases z') (λb z=>absurd rfl z) λz=>absurd rfl z
 | none=>
  refine X (λb=>if b=a then some (.frz {cls:=.type "list",data:=.seq vs.toArray} (.lst (ns.map V.int))) else none) (λb=>?_) (.inl (.inr ⟨{cls:=.type "list",data:=.seq vs.toArray},Ae rfl⟩)) (λb u z=>?_) (λb z=>?_) λ_=>hk
  .by_cases g:b=a
   .exact .inr ⟨_,_,Ae g⟩
   .exact .inl (Ac g)
  .by_cases g:b=a
   .have z':=(Ae g).symm.trans z
    cases z'
    subst g;exact⟨ha,by rw[Aa3];exact hl,vs,_,rv,ha⟩
   .have z':=(Ac g).symm.trans z
    cases z'
  .by_cases g:b=a
   .exact g
   .exact absurd (Ac g) z
abbrev KOf {K:Frag}{h:Heap}(_:K.In h):Frag:=K
theorem dC5 {l:PySem.W.OpenLaw}{n k:Nat}{q:Program}{loose:AG}{XP:(Str->Option Value)->Heap->Prop}{YP:World->Heap->Prop}{d:DefRec}{K:Params->Frag}{CX:World->CXT}{sp:World->Sp}{x:Str}
  (hn:l.most=some n) (J:n<=sizeLine) (X:d.params.defaults=[]) (hr:Room k callerA)
  (P:∀(w:World) (h:Heap),YP w h->(K w.params).In h)
  (F:∀(w:World) (mg:Str->Option Value) (fa:Addr) (h:Heap),(K w.params).In h->h.Ns mainGlobals mg->mg d.name=some (.ref fa) ->
   ∃fd:FuncData,(∀(s:Shared) (u:Value),BindsTo s fd ⟨[u],[]⟩ [(x,u)]) /\
    ∀base:Heap,(K w.params).In base->base.Ns mainGlobals mg->FnOk l.prog w (K w.params) mg base (CX w) k fa fd [x] (sp w))
  (M:∀(w:World) (H:Hp) (a:Addr) (ns:AC),ns.length<=n->dV4 H->SqL (K w.params) H a (ns.map V.int)->sp w [.ref a] H (λv _=>v=.bl true) λ_ _ _=>False)
  (m:∀(w:World) (H:Hp) (s:Shared) (e:Value) (s':Shared),CX w [] H s (λ_ _ _=>False) e s'->False) :
  PySem.W.WalkO q loose XP YP l.row.toRowW d [] (λf vs=>PySem.call f vs):=by
 refine Att.bR5 hn X λw s₀ s₁ mg mb fa o pm cd R a vs ns G Y ho hd hcd U r z y hg=>?_
 have N:=P w _ Y
 obtain⟨fd,hb,Q⟩:=F w mg fa _ N G.T.g U;exact cT5 N G.T.g G.T.b G.T.builtins G.T.nolimit hg r z (Bf y J) hr Q hb (λH D B=>M w H a ns y D B) λH e s'=>m w H s₁ e s'
def aU8 (s:Stmt)(j:Nat):Stmt:=match s with
 | .ClassDef _ _ _ body _ _ _ _ _ _ _=>body.getD j (.Pass ⟨0,0,0,0⟩)
 | _=>.Pass ⟨0,0,0,0⟩
def aT7 (s:Stmt):Arguments:=match s with
 | .FunctionDef _ a _ _ _ _ _ _ _ _=>a
 | _=>{posonlyargs:=[],args:=[],vararg:=none,kwonlyargs:=[],kw_defaults:=[],kwarg:=none,defaults:=[]}
def aK8 (s:Stmt):List Stmt:=match s with
 | .FunctionDef _ _ b _ _ _ _ _ _ _=>b
 | _=>[]
def C3 (s:Stmt):Scope:=match s with
 | .FunctionDef _ _ _ _ _ _ sc _ _ _=>sc
 | _=>{kind:=.function,names:=[],isGenerator:=false,isCoroutine:=false}
abbrev CX0:CXT:=λ_ _ _ _ _ _=>False
abbrev E0:XK:=λ_ _ _=>False
theorem E2 {X:Cx}:aJ7 CX0 X E0:=λ_ _ _ _ _ _ _ h=>h.elim
structure Fun (K:Frag)(x qual:Str)(st:Stmt)(f:Addr)(fd:FuncData):Prop where
 ex:∃(oc:Value) (od:AJ) (kV doc pm:Value) (an:AJ) (cdv ct:Value) (osl:Array (Option Value)),
  fd=PySem.W.fnOf x qual (aT7 st) (aK8 st) (C3 st) .none kV doc pm an cdv ct/\K.lookup f=some ⟨oc,od,.func fd,osl⟩/\PySem.W.codeIn K cdv qual=true
 kp:PySem.W.keepIn K (.ref f)=true
section
variable {P:Program}{w:World}{K:Frag}{mg:Str->Option Value}{base:Heap}
theorem Fun.ok {x qual:Str}{st:Stmt}{f:Addr}{fd:FuncData}{N ps:AG}{k:Nat}{sp:Sp}(F:Fun K x qual st f fd)(S:D4 N ps (C3 st))(len:∀vs H Q E,sp vs H Q E->vs.length=ps.length)
  (e:∀(cdv:Value) (A:Around) (outer:List Env) (s:Shared) (H:Hp) (vs:List V) (Q:VK) (E:XK),Room k (A.deeper (envOfC qual (C3 st) s.heap.objs.size f cdv))->sp vs H Q E ->
   ∃t,PSs (bX5 CX0 P w K mg base N qual (C3 st) f cdv A outer s H E).nox (aK8 st) t/\t {nx:=λ_ H'=>Q .non H',rt:=Q} (m6 N vs) H):FnOk P w K mg base CX0 (k+1) f fd ps sp:=by
 obtain⟨oc,U,kV,r,J,an,cdv,X,Y,rfl,m,y⟩:=F.ex;refine eD2 m y S len λA outer s H vs Q E g z=>?_
 obtain⟨t,h,q⟩:=e cdv A outer s H vs Q E g z;exact⟨t,h.nox,q⟩
theorem Fun.binds {x qual:Str}{st:Stmt}{f:Addr}{fd:FuncData}{ps:AG}(F:Fun K x qual st f fd)
  (h:∀(kV doc pm:Value) (an:AJ) (cdv ct:Value) (us:AF),us.length=ps.length->bindArgs (PySem.W.fnOf x qual (aT7 st) (aK8 st) (C3 st) .none kV doc pm an cdv ct) ⟨us,[]⟩=pure (ps.zip us)):Binds K fd ps []:=by
 obtain⟨oc,r,kV,doc,pm,an,cdv,ct,y,rfl,z,e⟩:=F.ex;exact .all (h kV doc pm an cdv ct)
theorem E9 {x qual:Str}{st:Stmt}{f:Addr}{oc:Value}{od an:AJ}{osl:Array (Option Value)}{kV doc pm cdv ct:Value}(l:K.lookup f=some ⟨oc,od,.func (PySem.W.fnOf x qual (aT7 st) (aK8 st) (C3 st) .none kV doc pm an cdv ct),osl⟩)
  (c:PySem.W.codeIn K cdv qual=true) (k:PySem.W.keepIn K (.ref f)=true):Fun K x qual st f (PySem.W.fnOf x qual (aT7 st) (aK8 st) (C3 st) .none kV doc pm an cdv ct):=⟨⟨oc,od,kV,doc,pm,an,cdv,ct,osl,rfl,l,c⟩,k⟩
end
section
variable {X:Cx}
theorem pv (i:Nat){x:Str}{pos:Pos}(y:X.N[i]? = some x:=by rfl)(r:Vis X.env.scope x:=by first | exact Or.inl rfl | exact Or.inr (Or.inl rfl) | exact Or.inr (Or.inr rfl))(z:(x==("__debug__" : Str))=false:=by decide)
  (e:(x==("__classdict__" : Str))=false:=by decide):PE X (.Name x pos) (J7 i):=dZ5 y r z e
end
def Same (H H':Hp):Prop:=∀b o,H b=some o->H' b=some o
section
variable {prog:Program}{w:World}{A:Around}{R:Result->Shared->Prop}{s:Shared}
theorem bR4 {elt target iter:Expr}{ifs:AL}{scope:Scope}{pos:Pos}{it acc:Value}{env:Env}(I:Nat->Shared->Prop)
  (y:∀n s,I n s->wpAny (model prog w) A (pyNext it) (λr s₁=>match r with
   | none=>R (.ok .next) s₁
   | some v=>wpAny (model prog w) A (letOwnedTupleGo target it v) (λ_ s₁'=>wpAny (model prog w) A (assign target env v) (λ_ s₂ =>
     wpAny (model prog w) A (forIn ifs true λc r=>if r=true then do let ok <- isTrue c env (eval c env);pure (ForInStep.yield ok) else pure (ForInStep.yield r)) (λok s₃ =>
      if ok=true then wpAny (model prog w) A (eval elt env) (λx s₄ =>
       wpAny (model prog w) A (call (.builtin "list.append") [acc,x]) (λ_ s₅=>∃m,m<n/\I m s₅) (λ_ _=>False) s₄) (λ_ _=>False) s₃
      else ∃m,m<n/\I m s₃) (λ_ _=>False) s₂) (λ_ _=>False) s₁') (λ_ _=>False) s₁) (λ_ _=>False) s)
  (n:Nat) (h:I n s) :
  codeAny (model prog w) A (.compLoop (.ListComp elt [⟨target,iter,ifs,0⟩] scope pos) 0 it acc env) R s:=by
 refine codeAny_loop rfl I (λn s Y=>?_) n h
 show wpAny _ A ((compTurn (.ListComp elt [⟨target,iter,ifs,0⟩] scope pos) 0 it acc env).onRaise (λx=>do noteFrame x env;theTreesLotGoes x)) _ _ s
 refine wpAny_noted ?_;rw[compTurn_list];refine Aa (wpAny_standAt (Aa (wpAny_mono (y n s Y) (λr s₁ g=>?_) λ_ _ e=>e.elim)))
 cases r with
 | none=>exact Ab g
 | some v=>
  refine Aa (wpAny_mono g (λ_ s₁' z=>?_) λ_ _ e=>e.elim)
  refine Aa (wpAny_mono z (λ_ s₂ X=>Aa (wpAny_mono X (λok s₃ k=>?_) λ_ _ e=>e.elim)) λ_ _ e=>e.elim)
  cases ok with
  | false=>exact Ab ⟨rfl,k⟩
  | true=>
   exact Aa (Aa (wpAny_mono k (λx s₄ U=>Aa (wpAny_mono U (λ_ s₅ J=>Ab (Ab ⟨rfl,J⟩)) λ_ _ e=>e.elim)) λ_ _ e=>e.elim))
end
section
variable {X:Cx}
def cxC (X:Cx)(N':AG)(scope:Scope)(cl:List (Str×Addr))(C:Addr)(ex:AK)(s:Shared)(H:Hp):Cx:=
 {X with N:=N',s₀:=s,H₀:=H,env:=compEnvC scope cl C X.env,outer:=X.stack,ex:=ex,fn:=λ_=>false,xe:=λ_ _=>False}
structure PIfs (X:Cx)(ifs:AL)(t:TT):Prop where
 mk ::
 run :
  ∀(aA:Dz) (s:Shared) (σ:St) (H:Hp) (Q:Bool->Hp->Prop),Inv X aA σ H s->t σ H Q ->
   wpAny (model X.prog X.w) X.A (forIn ifs true λc r=>if r=true then do let ok <- isTrue c X.env (eval c X.env);pure (ForInStep.yield ok) else pure (ForInStep.yield r)) (TP X aA σ Q) X.xe s
instance {X:Cx} {ifs:AL} {t:TT}:CoeFun (PIfs X ifs t) λ_=>
 (∀(aA:Dz) (s:Shared) (σ:St) (H:Hp) (Q:Bool->Hp->Prop),Inv X aA σ H s->t σ H Q ->
  wpAny (model X.prog X.w) X.A (forIn ifs true λc r=>if r=true then do let ok <- isTrue c X.env (eval c X.env);pure (ForInStep.yield ok) else pure (ForInStep.yield r)) (TP X aA σ Q) X.xe s):=⟨PIfs.run⟩
def dF4:TT:=λ_ H Q=>Q true H
theorem aD6:PIfs X [] dF4:=⟨λe s σ H Q I h=>by
 show wpAny _ _ (pure true) _ _ _
 exact Ab ⟨H,I,h⟩⟩
theorem V9 {c:Expr}{t:TT}(y:PT X c t):PIfs X [c] t:=⟨λe s σ H Q I h=>by
 rw[List.forIn_cons,Ae rfl];refine Aa (Aa (thn (y e s σ H Q I h) λb z q=>Ab ?_))
 dsimp only
 rw[List.forIn_nil];exact Ab q⟩
def stC (n:Nat)(is:AB)(σ:St):St:=List.replicate n none++is.map λi=>(σ[i]?).getD none
def cA6 (wi:TI)(n:Nat)(is:AB)(g:TG)(tt:TT)(te:TE):TE:=λσ H Q=>wi σ H λJ H1=>
 ∃W:Nat->Nat->List V->Hp->Prop,(∃m,W 0 m [] H1)/\∀i m ys H,W i m ys H->ys.length<sizeLine /\
  ((J.stop i H/\∀D,H D=none->Q (.ref D) (upd H D (.lst ys))) \/
   (J.go i H/\∀x H',J.yld i H x H'->g x (stC n is σ) H' λσ2 H2=>tt σ2 H2 λb H3=>
    if b=true then te σ2 H3 (λy H4=>∃m',m'<m/\W (i+1) m' (ys++[y]) H4) else ∃m',m'<m/\W (i+1) m' ys H3))
structure CScope (X:Cx)(scope:Scope)(cl:List (Str×Addr))(T:AG)(is:AB)(N':AG):Prop where
 clos:closureFor scope X.env=pure cl
 cell:∀y∈scope.names,y.2≠.cell
 kind:scope.kind=.function
 names:∀y∈scope.names,y.2=.local->scope.names.lookup y.1=some .local
 cap:∀x c,cl.lookup x=some c->X.env.cells.lookup x=some c
 has:∀x,((relabel scope X.env).names.lookup x=some .cell\/(relabel scope X.env).names.lookup x=some .free)->∃c,cl.lookup x=some c
 N:N'=T++is.map λ(i:Nat)=>((X.N[i]?).getD Str.empty:Str)
 lt:∀i∈is,i<X.N.length
 capt:∀i∈is,∀x,X.N[i]? = some x->((relabel scope X.env).names.lookup x=some .cell\/(relabel scope X.env).names.lookup x=some .free)/\(X.env.kindOf x=some .cell\/X.env.kindOf x=some .free)
theorem dX6 {aA:Dz}{σ:St}{H:Hp}{s:Shared}{scope:Scope}{cl:List (Str×Addr)}{T N':AG}{is:AB}{C:Addr}{fp:AK}(S:CScope X scope cl T is N')(I:Inv X aA σ H s)
  (g:∀b∈fp,FpOk X aA H b) (k:∀b∈fp,b<s.heap.objs.size) (m:s.heap.objs.size<=C):(cxC X N' scope cl C fp s H).Ok where
 mod:=I.ok.mod
 kind:=S.kind
 glob:=I.ok.glob
 blt:=I.ok.blt
 above:=m
 inj:=λx y c h1 Y=>I.ok.inj x y c (S.cap x c h1) (S.cap y c Y)
 has:=S.has
 cab:=λx c h=>by cases h
 hd:=I.ok.hd
 frames:=I.ok.frames
 stk:=.inl rfl
 exf:=λb r=>⟨Ab9 (Ab8 (k b r) m),λx c e=>(g b r).2.2.2.2.1 x c (S.cap x c e)⟩
 bs:=λb o e=>I.bs b o e
 bsz:=Bf I.ok.bsz I.sz
 noex:=λb o e r=>by
  rcases (g b r).2.2.2.1 with z | z
  .exact I.ok.noex b o e z
  .exact absurd (Ab8 (Ab3 e) (Bf I.ok.bsz z)) (Ad9 _)
 exfs:=λb r z=>(Aa1.mp (I.stkSub b z)).elim (g b r).2.1 (g b r).2.2.1
 funs:=I.stack
 frf:=I.stkFree
def aZ6 (n:Nat)(g:TG):Prop:=∀v (σ:St) H Q,n<=σ.length->g v σ H Q->g v σ H λσ' H'=>Q σ' H'/\σ'.length=σ.length/\∀i,n<=i->σ'[i]? = σ[i]?
def bF4 (n:Nat)(g:TGs):Prop:=∀vs (σ:St) H Q,n<=σ.length->g vs σ H Q->g vs σ H λσ' H'=>Q σ' H'/\σ'.length=σ.length/\∀i,n<=i->σ'[i]? = σ[i]?
theorem O8 {n i:Nat}(h:i<n):aZ6 n (V6 i):=λv σ H Q y q=>
 ⟨q,Dl,λj e=>Ad0 (by lia)⟩
theorem dX7 {n:Nat}:bF4 n cK1:=λvs σ H Q e q=>⟨q.1,q.2,rfl,λ_ _=>rfl⟩
theorem cD2 {n:Nat}{t:TG}{u:TGs}(mono:∀v σ H Q Q',(∀σ' H',Q σ' H'->Q' σ' H')->t v σ H Q->t v σ H Q')(y:∀v σ H Q Q',(∀σ' H',Q σ' H'->Q' σ' H')->u v σ H Q->u v σ H Q')(h1:aZ6 n t)(s:bF4 n u):bF4 n (aV7 t u):=by
 rintro vs σ H Q m ⟨v,r,e,q⟩;refine⟨v,r,e,mono _ _ _ _ _ ?_ (h1 v σ H _ m q)⟩;rintro σ' H' ⟨J,N,Y⟩;refine y _ _ _ _ _ ?_ (s r σ' H' _ (by lia) J)
 rintro M k ⟨g,U,z⟩;exact⟨g,by lia,λi hi=>(z i hi).trans (Y i hi)⟩
theorem dY1 {K:Frag}{n k:Nat}{t:TGs}(h:bF4 n t):aZ6 n (dG7 K k t):=by
 rintro v σ H Q y ⟨a,xs,e,r,z,q⟩;exact⟨a,xs,e,r,z,h xs σ H Q y q⟩
abbrev aI7 (its:AF)(n:Nat):Obj:={cls:=.type "list",data:=.seq its.toArray n}
theorem cS5 {aA:Dz}{σ:St}{H:Hp}{s:Shared}{scope:Scope}{cl:List (Str×Addr)}{T N':AG}{is:AB}{C D:Addr}{fp:AK}{h₁:Heap}{tk:Nat}{m:Str->Option Value}{its:AF}{e:Nat}(S:CScope X scope cl T is N')(I:Inv X aA σ H s)
  (hf:∀b∈fp,FpOk X aA H b) (hfl:∀b∈fp,b<s.heap.objs.size) (F:s.heap.objs.size=D) (hC:D<C) (hns:h₁.Ns C m) (Y:∀b o,s.heap.get? b=some o->h₁.get? b=some o) (R:h₁.get? D=some (aI7 its e)) :
  Inv (cxC X N' scope cl C fp s H) (aA++[(D,aI7 its e)]) (stC T.length is σ) H {s with heap:=h₁,toks:=tk}:=by
 have M:s.heap.objs.size<=C:=by rw[F];exact Dh hC
 have ok:=dX6 (C:=C) S I hf hfl M
 have lt:∀p∈X.pn++aA,p.1<D:=λp hp=>by rw[<- F];exact Ab3 (I.pin p hp).1
 have stk:∀b∈frs X.stack,b<D:=λb hb=>by
  obtain⟨_,o,ho,_⟩:=I.stack.mem hb;rw[<- F];exact Ab3 ho
 refine⟨ok,rfl,I.bare,Un.kept Y,⟨m,hns,λi x v U g e3=>?_⟩,λx c h=>?_,?_,λx c h=>I.freeC x c (S.cap x c h),λp hp=>?_,I.hok.kept Y,?_⟩
 .have U:N'[i]? = some x:=U
  unfold stC at g;by_cases hi:i<T.length
  .rw[By (by simpa using hi),Co,Ae hi]at g
   cases g
  .rw[Au (by simpa using hi),Bs,Aa9]at g
   rw[S.N,Au (by lia),Aa9]at U
   cases P:is[i-T.length]? with
   | none=>rw[P]at g;cases g
   | some k=>
    rw[P]at U g;have hk:k∈is:=Ar P;have hlt:=S.lt k hk;have eN:X.N[k]? = some x:=by
     simp only[Option.map_some,Option.some.injEq]at U;rw[Aa2 hlt]at U ⊢;simpa using U
    have es:σ[k]? = some (some v):=by
     simp only[Option.map_some,Option.some.injEq]at g;cases q:σ[k]? with
     | none=>rw[q]at g;cases g
     | some y=>rw[q]at g;exact congrArg some g
    obtain⟨c1,c2⟩:=S.capt k hk x eN;obtain⟨m',hn',hl'⟩:=I.loc;obtain⟨u,r,l⟩:=hl' k x v eN es (.inr c2);refine⟨u,r,.inr ⟨c1,?_⟩⟩;rcases l with⟨k1,_⟩ | ⟨_,c,hc,J⟩
    .rcases c2 with c2 | c2 <;> rw[k1]at c2 <;> cases c2
    .obtain⟨B,Q⟩:=S.has x c1
     have:B=c:=Ab4 ((S.cap x B Q).symm.trans hc)
     subst this;exact⟨B,Q,J.keeps Y⟩
 .obtain⟨v,q⟩:=I.cell x c (S.cap x c h);exact⟨v,q.keeps Y⟩
 .exact I.hok.fresh M
 .have hp:p∈X.pn++(aA++[(D,aI7 its e)]):=hp
  rw[<- Ad7]at hp;rcases Aa0.mp hp with hp | hp
  .obtain⟨q1,q2,q3,q4,q5⟩:=I.pin p hp
   have:=lt p hp
   exact⟨Y _ _ q1,q2,Ab9 (Nat.lt_trans this hC),λz=>(Aa1.mp (I.stkSub p.1 z)).elim q3 q4,q5⟩
  .have e:p=(D,aI7 its e):=by simpa using hp
   subst e;exact⟨R,I.hok.fresh (by rw[F];exact Aa7 _),Ab9 hC,λz=>Ad9 _ (stk D z),λv z=>by cases z⟩
 .show(stC T.length is σ).length=N'.length
  rw[S.N];unfold stC
  simp
def dG6 (X:Cx)(aA:Dz)(σ:St)(D C:Addr)(H4:Hp)(s4:Shared):Prop:=
 (∃m,s4.heap.Ns C m)/\(∀h',Heap.SameBut C s4.heap h'->Inv X aA σ H4 {s4 with heap:=h'})/\H4 C=none/\C≠X.env.locals/\X.s₀.heap.objs.size<=C/\(∀x c,X.env.cells.lookup x=some c->c≠C)/\∀p∈X.pn++aA,p.1≠C
theorem bD6 {elt tg iter:Expr}{ifs:AL}{scope:Scope}{pos pos2:Pos}{cl:List (Str×Addr)}{T N':AG}{is:AB}{wi:TI}{g:TG}{tt:TT}{te:TE}(hc:X.calm=true)(S:CScope X scope cl T is N')(hi:PI X tg iter wi)(hg:aZ6 T.length g)
  (k:∀C ex s H,PG (cxC X N' scope cl C ex s H) tg g/\PIfs (cxC X N' scope cl C ex s H) ifs tt/\PE (cxC X N' scope cl C ex s H) elt te)
  (hs:∀x,foldedSetIterable iter X.env x=pure x) {use:Option (Value->Sem Unit)} {Qc:Dy} {aA:Dz} {s:Shared} {σ:St} {H:Hp} {Q:VK} (I:Inv X aA σ H s) (h:cA6 wi T.length is g tt te σ H Q)
  (fin:∀(D C:Addr) (H4:Hp) (s4:Shared),dG6 X aA σ D C H4 s4->Q (.ref D) H4->compPost (model X.prog X.w) X.A X.xe use Qc (.ref D) C (.ok .next) s4) :
  wpAny (model X.prog X.w) X.A (comprehension (.ListComp elt [⟨tg,iter,ifs,0⟩] scope pos) scope X.env pos2 (newList []) false (eval iter X.env) use) Qc X.xe s:=by
 refine wpAny_comprehension_free (use:=use) rfl hs S.clos S.kind S.names (thn (hi aA s σ H _ I h) λv s1 h1=>thn h1 λitv Y h2=>?_)
 obtain⟨it,m,tn,J,M,e,I2,Tn,st2,f2,W,⟨m0,w0⟩,turn⟩:=h2;subst e;refine Dg (wpAny_newFunctionEnv S.cell (by intro y hy;simp at hy) (λh₁ B N=>?_) S.kind)
 dsimp only at B N ⊢
 generalize hH2:Y.heap.push {cls:=.type "list",dict:=none,data:=.seq ([]:AF).toArray}=G2 at B N ⊢;have eC:G2.objs.size=Y.heap.objs.size+1:=by rw[<- hH2,Ca]
 generalize hC:G2.objs.size=C at *;generalize hD:Y.heap.objs.size=D at *;have U:D<C:=by rw[eC];exact Nat.lt_succ_self D
 have bC:∀{b:Addr},b<D->b≠C:=λk=>Ab9 (Nat.lt_trans k U)
 have below:∀b o,Y.heap.get? b=some o->b<D:=λb o e=>by rw[<- hD];exact Ab3 e
 have old:∀b o,Y.heap.get? b=some o->h₁.get? b=some o:=λb o e=>N.extBut b o (bC (below b o e)) (Aa6 _ (hH2▸Aa6 _ e))
 have hacc:h₁.get? D=some (aI7 [] 0):=N.extBut _ _ (Ab9 U) (Aa6 _ (hH2▸(by rw[<- hD];exact Ac3 _ rfl)))
 have F:∀b∈m,b<D:=λb k=>by
  obtain⟨o,e,_⟩:=Tn.obj _ _ st2 b k;exact below b o e
 have lt:∀p∈X.pn++aA,p.1<D:=λp hp=>below _ _ (I2.pin p hp).1
 have stk:∀b∈frs X.stack,b<D:=λb k=>by
  obtain⟨_,o,ho,_⟩:=I2.stack.mem k;exact below b o ho
 have cel:∀x c,cl.lookup x=some c->c<D:=λx c hx=>by
  obtain⟨v,q⟩:=I2.cell x c (S.cap x c hx);rw[<- hD];exact q.lt
 have H2D:M D=none:=I2.hok.fresh (by rw[hD];exact Aa7 _)
 obtain⟨pgx,pix,pex⟩:=k C m Y M;have stat:∀{e:Nat} {its:AF} {H':Hp},(∀b∈m,H' b=none)->∀b∈m,FpOk (cxC X N' scope cl C m Y M) (aA++[(D,aI7 its e)]) H' b:=λ{e its H'} hn b k=>by
  obtain⟨f0,f1,f3,f4,f5,f6⟩:=f2 b k
  have:=F b k
  refine⟨hn b k,bC (F b k),λz=>(Aa1.mp (I2.stkSub b z)).elim f1 f3,.inl k,λx c z=>f5 x c (S.cap x c z),λp hp=>?_⟩
  have hp:p∈X.pn++(aA++[(D,aI7 its e)]):=hp
  rw[<- Ad7]at hp;rcases Aa0.mp hp with hp | hp
  .exact f6 p hp
  .have e:p=(D,aI7 its e):=by simpa using hp
   subst e;exact(Ab9 (F b k)).symm
 have loop:codeAny (model X.prog X.w) X.A (.compLoop (.ListComp elt [⟨tg,iter,ifs,0⟩] scope pos) 0 (.ref it) (.ref D) (compEnvC scope cl C X.env)) (compPost (model X.prog X.w) X.A X.xe use Qc (.ref D) C) {Y with heap:=h₁,toks:=Y.toks+([]:List (Str×Value)).length}:=by
  refine bR4 (λn s'=>∃i ys its e R,Inv (cxC X N' scope cl C m Y M) (aA++[(D,aI7 its e)]) (stC T.length is σ) R s'/\tn i s'.heap/\(∀b∈m,R b=none)/\Vals ys its/\W i n ys R) ?_ m0
   ⟨0,[],[],0,M,cS5 S I2 f2 (by rw[hD];exact F) hD U B old hacc,Tn.keep _ _ _ st2 λb _ o q=>old b o q,λb k=>(f2 b k).1,.nil,w0⟩
  rintro n s3 ⟨i,ys,its,e,R,I3,st3,fr3,rv,w3⟩;obtain⟨hsz,hh⟩:=turn i n ys R w3;rcases hh with⟨stop,qn⟩ | ⟨go,step⟩
  .refine thn (Tn.done (cxC X N' scope cl C m Y M) rfl rfl rfl hc i _ s3 _ R _ I3 (stat fr3) st3 stop) λr s4 ⟨hr,I4⟩=>?_
   subst hr;obtain⟨m4,hn4,_⟩:=I4.loc;obtain⟨pd,H3D,_⟩:=I4.pin (D,aI7 its e) (by simp)
   have H3C:R C=none:=I4.free
   refine fin D C (upd R D (.lst ys)) s4 ⟨⟨m4,hn4⟩,λh' sb=>?_,by rw[A8 (Nat.ne_of_gt U)];exact H3C,λz=>Ad9 _ (Nat.lt_trans U (by rw[z];have:=I2.lt;rw[hD]at this;exact this)),Bf I2.sz (by rw[hD];exact Dh U),λx c e=>by
    obtain⟨v,q⟩:=I2.cell x c e;exact bC (by rw[<- hD];exact q.lt),λp hp=>bC (lt p hp)⟩ (qn D H3D)
   have kC:∀b o,b≠C->s4.heap.get? b=some o->h'.get? b=some o:=λb o k q=>(sb.2 b k).trans q
   have u:=I4.base
   have u:Un (frs X.stack) m M R Y.heap s4.heap:=u
   have u2:Un (frs X.stack) m M (upd R D (.lst ys)) Y.heap h':=by
    refine⟨λb o q n k hx=>kC b o (bC (below b o q)) (u.keep b o q n k hx),λb o q n k hx=>?_,λb o q n hx=>?_,λb o q hx=>?_,λb xs q=>?_,λb o xs q=>?_,λb ps q=>?_⟩
    .obtain⟨sl,q1⟩:=u.slot b o q n k hx;exact⟨sl,kC b _ (bC (below b o q)) q1⟩
    .rw[A8 (Ab9 (below b o q))];exact u.free b o q n hx
    .obtain⟨o',q1⟩:=u.there b o q hx;exact⟨o',kC b _ (bC (below b o q)) q1⟩
    .rw[A8 (K5 q H2D)];exact u.tups b xs q
    .rw[A8 (K5 q H2D)];exact u.frzs b o xs q
    .obtain⟨more,q1⟩:=u.tbls b ps q;exact⟨more,by rw[A8 (K5 q H2D)];exact q1⟩
   have hok:HOk X.prog X.w (upd R D (.lst ys)) h':=λb o q=>by
    by_cases k:b=D
    .subst k;rw[B3]at q;cases q;exact⟨Dh hsz,its,e,rv,kC _ _ (Ab9 U) pd⟩
    .rw[A8 k]at q;refine(I4.hok b o q).stay (λc v hc q'=>kC c v ?_ q') (λc q'=>by rw[A8 (K5 q' H3D)];exact q') λc xs q'=>by rw[A8 (K5 q' H3D)];exact q'
     rcases hc with z | z
     .rw[z];exact K5 q H3C
     .exact K5 z H3C
   have os4:s4.os=Y.os:=I4.os
   exact I2.call' (s':={s4 with heap:=h'}) os4 u2 hok I4.bare λb k=>⟨(f2 b k).2.2.2.1,(f2 b k).2.1,(f2 b k).2.2.2.2.1,(f2 b k).2.2.2.2.2⟩
  .refine thn (Tn.item (cxC X N' scope cl C m Y M) rfl rfl rfl hc i _ s3 _ R _ I3 (stat fr3) st3 go) λr s4 ⟨u,hr,h4⟩=>?_
   subst hr;refine thn h4 λ_ s5 ⟨x,H5,I5,r5,y5,st5,fr5⟩=>?_
   have I5':=I5.pinned (stat fr5) (Tn.obj _ _ st5)
   have hln:T.length<=(stC T.length is σ).length:=by unfold stC;simp
   refine thn (pgx _ s5 _ H5 x u _ I5' r5 (hg x _ H5 _ hln (step x H5 y5))) λ_ s6 ⟨σ6,H6,I6,q6,l6,k6⟩=>?_
   refine thn (pix _ s6 σ6 H6 _ I6 q6) λb s7 ⟨H7,I7,q7⟩=>?_
   have back:∀{H8:Hp} {s8:Shared} {P:AF} {e':Nat},Inv (cxC X N' scope cl C m Y M) (aA++[(D,aI7 P e')]++y6 m s5.heap) σ6 H8 s8->Inv (cxC X N' scope cl C m Y M) (aA++[(D,aI7 P e')]) (stC T.length is σ) H8 s8/\tn (i+1) s8.heap/\∀b∈m,H8 b=none:=λ{H8 s8 P e'} I8=>by
    refine⟨I8.unpinned.weak l6.symm λj v q=>?_,Tn.keep _ _ _ st5 λb k o q=>(I8.pin (b,o) (Ac1 _ (Ac1 _ (aB2 k q)))).1,λb k=>?_⟩
    .by_cases hj:T.length<=j
     .rw[k6 j hj];exact q
     .unfold stC at q;rw[By (by simpa using hj),Co,Ae (by lia)]at q
      cases q
    .obtain⟨o,q,d⟩:=Tn.obj _ _ st5 b k;exact(I8.pin (b,o) (Ac1 _ (Ac1 _ (aB2 k q)))).2.1
   cases b with
   | false=>
    rw[Ac Al]at q7 ⊢;obtain⟨m',hm,w7⟩:=q7;obtain⟨J1,J2,J3⟩:=back I7;exact⟨m',hm,i+1,ys,its,e,H7,J1,J2,J3,rv,w7⟩
   | true=>
    rw[Ae rfl]at q7 ⊢;refine thn (pex _ s7 σ6 H7 _ I7 q7) λy s8 ⟨yv,H8,I8,r8,m',hm,w8⟩=>?_
    obtain⟨pd,H8D,_⟩:=I8.pin (D,aI7 its e) (by simp)
    have pl:s8.heap.PlainList D its.toArray:=⟨e,pd⟩
    refine wpAny_list_append_plain pl (λh9 pl9 sb9=>?_) (by have:=rv.length;simp;lia)
    obtain⟨e9,hl9⟩:=pl9;have ea:its.toArray.push y=(its++[y]).toArray:=by simp
    rw[ea]at hl9;have I8':Inv (cxC X N' scope cl C m Y M) (aA++y6 m s5.heap) σ6 H8 s8:=I8.pins_of λp hp=>I8.pin p (Ac1 _ ((Aa0.mp hp).elim (λz=>Aq _ (Aq _ z)) λz=>Ac1 _ z))
    have I9:Inv (cxC X N' scope cl C m Y M) (aA++y6 m s5.heap) σ6 H8 {s8 with heap:=h9}:=by
     refine I8'.turned (t':=s8.toks) (it:=D) (λb o k q=>(sb9.2 b k).trans q) H8D (Ab9 U) (.inr (by show Y.heap.objs.size<=D;rw[hD];exact Aa7 _)) (λx c z=>Ab9 (cel x c z)) λp hp=>?_
     have hp:p∈X.pn++(aA++y6 m s5.heap):=hp
     rw[<- Ad7]at hp;rcases Aa0.mp hp with z | z
     .exact Ab9 (lt p z)
     .exact Ab9 (F _ (bE2 z).1)
    have I9':Inv (cxC X N' scope cl C m Y M) (aA++[(D,aI7 (its++[y]) e9)]++y6 m s5.heap) σ6 H8 {s8 with heap:=h9}:=I9.pins_of λp hp=>by
     rcases Aa0.mp hp with z | z
     .rcases Aa0.mp z with z | z
      .exact I9.pin p (Ac1 _ (Aq _ z))
      .have ep:p=(D,aI7 (its++[y]) e9):=by simpa using z
       subst ep;exact⟨hl9,H8D,Ab9 U,λz=>Ad9 _ (stk D z),λv z=>by cases z⟩
     .exact I9.pin p (Ac1 _ (Ac1 _ z))
    obtain⟨J1,J2,J3⟩:=back I9';exact⟨m',hm,i+1,ys++[yv],its++[y],e9,H8,J1,J2,J3,rv.append (.cons r8 .nil),w8⟩
 refine codeAny_compStart_list loop ?_;exact Tn.self _ 0 _ _ _ (Tn.keep _ _ _ st2 λb _ o q=>old b o q) loop
theorem X1 {elt tg iter:Expr}{ifs:AL}{scope:Scope}{pos:Pos}{cl:List (Str×Addr)}{T N':AG}{is:AB}{wi:TI}{g:TG}{tt:TT}{te:TE}(k:X.calm=true)(S:CScope X scope cl T is N')(hi:PI X tg iter wi)(hg:aZ6 T.length g)
  (r:∀C ex s H,PG (cxC X N' scope cl C ex s H) tg g/\PIfs (cxC X N' scope cl C ex s H) ifs tt/\PE (cxC X N' scope cl C ex s H) elt te)
  (m:∀x,foldedSetIterable iter X.env x=pure x:=by intro _;rfl):PE X (.ListComp elt [⟨tg,iter,ifs,0⟩] scope pos) (cA6 wi T.length is g tt te):=by
 refine⟨?_⟩;intro U s σ H Q I h;rw[eval_ListComp];refine bD6 k S hi hg r m I h λD C y M ⟨⟨Y,e⟩,J,_⟩ q=>?_
 exact⟨Y,e,λz sb=>⟨.ref D,y,J z sb,rfl,q⟩⟩
theorem u9 {i:Nat}{x:Str}{pos' spos:Pos}{elt tg iter:Expr}{ifs:AL}{scope:Scope}{pos:Pos}{cl:List (Str×Addr)}{T N':AG}{is:AB}{wi:TI}{g:TG}{tt:TT}{te:TE}(hN:X.N.Nodup)(hx:X.N[i]? = some x)(M:X.env.scope.names.lookup x=some .local)
  (hc:X.calm=true) (S:CScope X scope cl T is N') (hi:PI X tg iter wi) (hg:aZ6 T.length g)
  (y:∀C ex s H,PG (cxC X N' scope cl C ex s H) tg g/\PIfs (cxC X N' scope cl C ex s H) ifs tt/\PE (cxC X N' scope cl C ex s H) elt te)
  (r:swapsWith (.ListComp elt [⟨tg,iter,ifs,0⟩] scope pos) (some (.Name x pos')) spos.line X.env=pure true:=by rfl)
  (hs:∀x,foldedSetIterable iter X.env x=pure x:=by intro _;rfl):PS X (.Assign [.Name x pos'] (.ListComp elt [⟨tg,iter,ifs,0⟩] scope pos) spos) (bB0 (cA6 wi T.length is g tt te) (V6 i)):=by
 refine⟨?_⟩;intro U s σ H D I h;rw[exec_Assign_Name_used _ _ _ _ r];refine Aa (wpAny_standAt (Aa ?_));show wpAny _ X.A (do let _ <- comprehension (.ListComp elt [⟨tg,iter,ifs,0⟩] scope pos) scope X.env _ (newList []) false (eval iter X.env) (some (assign (.Name x pos') X.env))) _ _ s;refine Aa (wpAny_mono (bD6 (use:=some (assign (.Name x pos') X.env)) (Qc:=λ_ F=>SP X U D .next F) hc S hi hg y hs I h λm C Y B ⟨⟨m4,z⟩,J,k1,R,k3,Q,k5⟩ q=>?_) (λ_ F hq=>Ab (Ab hq)) λ_ _ e=>e)
 show wpAny _ _ (assign (.Name x pos') X.env (.ref m)) _ _ _
 have P:Inv X U σ Y B:=J B.heap (.refl _ _)
 refine wpAny_assign_Name (bE5 P hN hx (.inl M) (v:=.ref m) rfl (λs5 I5 ⟨a,sb,ha⟩=>?_) (.inr M))
 have aC:a≠C:=by
  rcases ha with rfl | ha
  .exact R.symm
  .exact Q x a ha
 refine⟨m4,z.sameBut sb aC.symm,λh' k=>⟨_,Y,?_,q⟩⟩
 exact I5.turned (t':=s5.toks) (λb o y e=>(k.2 b y).trans e) k1 R (.inr k3) Q k5
end
end L2
namespace LV
open PySem L2
def _root_.L2.excO (x C:Addr):HO:=.ext λh=>∃o vs,h.get? x=some o/\o.cls=.ref C/\o.data=.fields vs
def _root_.L2.dEnt (x:AC×Addr×Value):DictEntry:=⟨reduceHash (Builtin.Tuple.tupleHashOf (x.1.map hashInt)),.ref x.2.1,x.2.2⟩
def _root_.L2.dicO (a:Addr)(kv:List (AC×Addr×V)):HO:=.ext λh=>∃xs:List (AC×Addr×Value),Paired (λp q=>p.1=q.1/\p.2.1=q.2.1/\RelV p.2.2 q.2.2) kv xs /\
 kv.length<=sizeLine/\(a==sysModules)=false/\∃o es ep,h.get? a=some o/\o.ExactDict/\o.data=.dict es ep/\es.toList=xs.map L2.dEnt/\(xs.map (·.1)).Nodup
inductive HM where
 | l (xs:List V) | x (a:Addr) (kv:List (AC×Addr×V))
def HM.ho:HM->HO
 | .l xs=>.lst xs
 | .x a kv=>L2.dicO a kv
theorem HM.nt {u:HM}{xs:List V}(h:u.ho=.tup xs):False:=by cases u <;> cases h
theorem HM.nf {u:HM}{o:Obj}{v:HO}(h:u.ho=.frz o v):False:=by cases u <;> cases h
def _root_.L2.excD (x C:Addr)(d:AJ):HO:=.ext λh=>∃o vs,h.get? x=some o/\o.cls=.ref C/\o.data=.fields vs/\o.dict=d
def cC4:PyData->Bool
 | .none | .bool _ | .int _ | .str _=>true
 | .tuple ds=>ds.all λd=>match d with | .int _=>true | _=>false
 | _=>false
def cV4 (K:Frag)(H:Hp)(v:V):PyData->Prop
 | .none=>v=.non
 | .bool b=>v=.bl b
 | .int i=>v=.int i
 | .str x=>v=.str x
 | .tuple ds=>∃(a:Addr) (l:AC),v=.ref a/\ds=l.map PyData.int/\SqT K H a (l.map V.int)
 | _=>False
def dX5 (kvs:List (AC×PyData)):List (PyData×PyData):=kvs.map λx=>(PyData.tuple (x.1.map PyData.int),x.2)
def dD (kvs:List (AC×PyData)):PyData:=if kvs.all (λx=>cC4 x.2) then .dict (dX5 kvs) else .dict [(.none,.none)]
def KvF (K:Frag)(H:Hp):List (AC×Addr×V)->List (AC×PyData)->Prop:=Paired λx y=>x.1=y.1/\SqT K H x.2.1 (x.1.map V.int)/\cV4 K H x.2.2 y.2
def DiF (K:Frag)(H:Hp):List (Int×Addr)->List (Int×AC)->Prop:=Paired λx y=>x.1=y.1/\SqT K H x.2 (y.2.map V.int)
def sV:PyData->Option V
 | .none=>some .non
 | .bool b=>some (.bl b)
 | .int i=>some (.int i)
 | .str x=>some (.str x)
 | _=>none
def dQ6 (K:Frag)(H:Hp)(v:V):PyData->Prop
 | .tuple ds=>∃(a:Addr) (xs:List V),v=.ref a/\SqT K H a xs/\xs.map some=ds.map sV
 | d=>sV d=some v
def FdF (K:Frag)(H:Hp):List (Str×V)->List (Str×PyData)->Prop:=Paired λx y=>x.1=y.1/\dQ6 K H x.2 y.2
def XdA (H:Hp)(vs:List (Str×V)):AJ->Prop
 | none=>vs=[]
 | some dx=>H dx=some (.xd vs)
def cR6 (K:Frag)(H:Hp)(v:V)(d:PyData):Prop:=∃(a:Addr) (xs:List V) (ds:AD),v=.ref a/\d=.list ds/\SqL K H a xs/\xs.map some=ds.map sV
def dS1 (K:Frag)(H:Hp)(v:V)(d:PyData):Prop:=cR6 K H v d\/∃(a:Addr) (xs:List V) (ds:AD),v=.ref a/\d=.list ds/\SqL K H a xs/\Paired (cR6 K H) xs ds
def GdF (K:Frag)(H:Hp):List (Str×V)->List (Str×PyData)->Prop:=Paired λx y=>x.1=y.1/\dS1 K H x.2 y.2
def igD (C:Addr)(fs:List (Str×PyData)):PyData:=.dict ((.int (C:Nat),.str "")::fs.map λx=>(.str x.1,x.2))
mutual
inductive Rep (K:Frag)(H:Hp):V->PyData->Prop
 | non:Rep K H .non .none
 | bl (b:Bool):Rep K H (.bl b) (.bool b)
 | int (i:Int):Rep K H (.int i) (.int i)
 | str (x:Str):Rep K H (.str x) (.str x)
 | tup {a:Addr} {xs:List V} {ds:AD}:SqT K H a xs->Reps K H xs ds->Rep K H (.ref a) (.tuple ds)
 | lst {a:Addr} {xs:List V} {ds:AD}:SqL K H a xs->Reps K H xs ds->Rep K H (.ref a) (.list ds)
 | exc {a C:Addr}:H a=some (L2.excO a C)->Rep K H (.ref a) (.dict [(.int (C:Nat),.none)])
 | ptr {a:Addr}:Rep K H (.ref a) (.dict [(.none,.none)])
 | adr {a:Addr}:Rep K H (.ref a) (.dict [(.int (a:Nat),.none),(.none,.none)])
 | exd {a C:Addr} {d:AJ} {vs:List (Str×V)} {fs:List (Str×PyData)}:H a=some (L2.excD a C d)->XdA H vs d->FdF K H vs fs->Rep K H (.ref a) (.dict ((.int (C:Nat),.bool false)::fs.map λx=>(.str x.1,x.2)))
 | ing {a C dx:Addr} {vs:List (Str×V)} {fs:List (Str×PyData)}:H a=some (.ins C dx vs)->GdF K H vs fs->Rep K H (.ref a) (.dict ((.int (C:Nat),.str "")::fs.map λx=>(.str x.1,x.2)))
 | ins {a C dx:Addr} {fs:List (Str×Int)}:H a=some (.ins C dx (fs.map λx=>(x.1,V.int x.2)))->Rep K H (.ref a) (.dict ((.int (C:Nat),.bool true)::fs.map λx=>(.str x.1,.int x.2)))
 | dki {a:Addr} {kv:List (Int×Addr)} {kvs:List (Int×AC)}:H a=some (.dK (kv.map λx=>((Sum.inl x.1:L2.Key),V.ref x.2)))->DiF K H kv kvs->Rep K H (.ref a) (.dict ((.bool true,.none)::kvs.map λx=>(.int x.1,.tuple (x.2.map PyData.int))))
 | dic {a:Addr} {kv:List (AC×Addr×V)} {kvs:List (AC×PyData)} {ds:List (PyData×PyData)}:H a=some (L2.dicO a kv)->KvF K H kv kvs->ds=dX5 kvs->Rep K H (.ref a) (.dict ds)
inductive Reps (K:Frag)(H:Hp):List V->AD->Prop
 | nil:Reps K H [] []
 | cons {v:V} {d:PyData} {vs:List V} {ds:AD}:Rep K H v d->Reps K H vs ds->Reps K H (v::vs) (d::ds)
end
section
variable {K:Frag}{H H':Hp}
theorem _root_.L2.Same.rf (H:Hp):Same H H:=λ_ _ e=>e
theorem _root_.L2.Same.tr {H1 H2 H3:Hp}(a:Same H1 H2)(b:Same H2 H3):Same H1 H3:=λx o e=>b x o (a x o e)
theorem a7 (h:Same H H'){a:Addr}{u:HO}(r:Rd H a u):Rd H' a u:=by
 rcases r with e | ⟨o,e⟩
 .exact .inl (h _ _ e)
 .exact .inr ⟨o,h _ _ e⟩
theorem K8 (h:Same H H'){a:Addr}{xs:List V}(r:SqT K H a xs):SqT K H' a xs:=r.imp (a7 h) id
theorem G6 (h:Same H H'){a:Addr}{xs:List V}(r:SqL K H a xs):SqL K H' a xs:=r.imp (a7 h) id
theorem cJ9 (h:Same H H'){v:V}:∀{d:PyData},cV4 K H v d->cV4 K H' v d
 | .none,r | .bool _,r | .int _,r | .str _,r=>r
 | .tuple _,⟨a,l,e,y,s⟩=>⟨a,l,e,y,K8 h s⟩
 | .list _,r | .dict _,r=>r
theorem bO2 (h:Same H H'){kv:List (AC×Addr×V)}{kvs:List (AC×PyData)}(r:KvF K H kv kvs):KvF K H' kv kvs:=by
 unfold KvF at *;induction r with
 | nil=>exact .nil
 | cons a _ e=>exact .cons ⟨a.1,K8 h a.2.1,cJ9 h a.2.2⟩ e
theorem cY3 (h:Same H H'){kv:List (Int×Addr)}{kvs:List (Int×AC)}(r:DiF K H kv kvs):DiF K H' kv kvs:=by
 unfold DiF at *;induction r with
 | nil=>exact .nil
 | cons a _ e=>exact .cons ⟨a.1,K8 h a.2⟩ e
theorem cM4 (h:Same H H'){v:V}:∀{d:PyData},dQ6 K H v d->dQ6 K H' v d
 | .none,r | .bool _,r | .int _,r | .str _,r | .list _,r | .dict _,r=>r
 | .tuple _,⟨a,xs,e,s,y⟩=>⟨a,xs,e,K8 h s,y⟩
theorem cV7 (h:Same H H'){vs:List (Str×V)}{fs:List (Str×PyData)}(r:FdF K H vs fs):FdF K H' vs fs:=by
 unfold FdF at *;induction r with
 | nil=>exact .nil
 | cons a _ e=>exact .cons ⟨a.1,cM4 h a.2⟩ e
theorem cM6 (h:Same H H'){vs:List (Str×V)}:∀{d:AJ},XdA H vs d->XdA H' vs d
 | none,r=>r
 | some _,r=>h _ _ r
theorem aR8 {α β:Type}{P Q:α->β->Prop}(h:∀a b,P a b->Q a b){l:List α}{m:List β}(r:Paired P l m):Paired Q l m:=by
 induction r with
 | nil=>exact .nil
 | cons a _ e=>exact .cons (h _ _ a) e
theorem bE8 (h:Same H H'){v:V}{d:PyData}:cR6 K H v d->cR6 K H' v d:=λ⟨a,xs,ds,e,y,s,z⟩=>⟨a,xs,ds,e,y,G6 h s,z⟩
theorem cY0 (h:Same H H'){vs:List (Str×V)}{fs:List (Str×PyData)}(r:GdF K H vs fs):GdF K H' vs fs:=
 aR8 (λ_ _ a=>⟨a.1,a.2.imp (bE8 h) λ⟨b,xs,ds,e,y,s,p⟩=>⟨b,xs,ds,e,y,G6 h s,aR8 (λ_ _=>bE8 h) p⟩⟩) r
mutual
theorem bO7 (h:Same H H'):∀(d:PyData) {v:V},Rep K H v d->Rep K H' v d
 | .none,_,r=>by cases r;exact .non
 | .bool _,_,r=>by cases r;exact .bl _
 | .int _,_,r=>by cases r;exact .int _
 | .str _,_,r=>by cases r;exact .str _
 | .tuple ds,_,r=>by cases r with | tup s rs=>exact .tup (K8 h s) (aF3 h ds rs)
 | .list ds,_,r=>by cases r with | lst s rs=>exact .lst (G6 h s) (aF3 h ds rs)
 | .dict _,_,r=>by cases r with | exc e=>exact .exc (h _ _ e) | ptr=>exact .ptr | adr=>exact .adr | exd e x r=>exact .exd (h _ _ e) (cM6 h x) (cV7 h r) | ing e r=>exact .ing (h _ _ e) (cY0 h r) | ins e=>exact .ins (h _ _ e) | dki e r=>exact .dki (h _ _ e) (cY3 h r) | dic e r z=>exact .dic (h _ _ e) (bO2 h r) z
theorem aF3 (h:Same H H'):∀(ds:AD) {vs:List V},Reps K H vs ds->Reps K H' vs ds
 | [],_,r=>by cases r;exact .nil
 | d::ds,_,r=>by cases r with | cons a b=>exact .cons (bO7 h d a) (aF3 h ds b)
end
theorem Rep.mono {v:V}{d:PyData}(r:Rep K H v d)(h:Same H H'):Rep K H' v d:=bO7 h d r
theorem Reps.mono {vs:List V}{ds:AD}(r:Reps K H vs ds)(h:Same H H'):Reps K H' vs ds:=aF3 h ds r
mutual
def imm:PyData->Bool
 | .none | .bool _ | .int _ | .str _=>true
 | .tuple ds=>K9 ds
 | .list _ | .dict _=>false
def K9:AD->Bool
 | []=>true
 | d::ds=>imm d&&K9 ds
end
mutual
theorem cF2 (h:∀a xs,Rd H a (.tup xs)->Rd H' a (.tup xs)):∀(d:PyData) {v:V},imm d=true->Rep K H v d->Rep K H' v d
 | .none,_,_,r=>by cases r;exact .non
 | .bool _,_,_,r=>by cases r;exact .bl _
 | .int _,_,_,r=>by cases r;exact .int _
 | .str _,_,_,r=>by cases r;exact .str _
 | .tuple ds,_,i,r=>by
  cases r with
  | tup s rs=>exact .tup (s.imp (h _ _) id) (aZ1 h ds (by simpa[imm]using i) rs)
 | .list ds,_,i,r=>by simp[imm]at i
 | .dict _,_,i,r=>by simp[imm]at i
theorem aZ1 (h:∀a xs,Rd H a (.tup xs)->Rd H' a (.tup xs)):∀(ds:AD) {vs:List V},K9 ds=true->Reps K H vs ds->Reps K H' vs ds
 | [],_,_,r=>by cases r;exact .nil
 | d::ds,_,i,r=>by
  have e:imm d=true/\K9 ds=true:=by simpa[K9]using i
  cases r with | cons a b=>exact .cons (cF2 h d e.1 a) (aZ1 h ds e.2 b)
end
theorem Reps.length:∀{vs:List V} {ds:AD},Reps K H vs ds->vs.length=ds.length
 | _,[],r=>by cases r;rfl
 | _,d::ds,r=>by cases r with | cons a b=>simp[Reps.length b]
theorem Reps.get:∀{vs:List V} {ds:AD} {i:Nat} {v:V},Reps K H vs ds->vs[i]? = some v->∃d,ds[i]? = some d/\Rep K H v d
 | _,[],_,_,r,e=>by cases r;simp at e
 | _,d::ds,0,v,r,e=>by
  cases r with | cons a b=>simp at e;subst e;exact⟨d,rfl,a⟩
 | _,d::ds,i+1,v,r,e=>by
  cases r with
  | cons a b=>
   obtain⟨d',h1,h2⟩:=Reps.get (i:=i) (v:=v) b (by simpa using e)
   exact⟨d',by simpa using h1,h2⟩
theorem Reps.get':∀{vs:List V} {ds:AD} {i:Nat} {d:PyData},Reps K H vs ds->ds[i]? = some d->∃v,vs[i]? = some v/\Rep K H v d
 | _,[],_,_,r,e=>by simp at e
 | _,d::ds,0,v,r,e=>by
  cases r with | cons a b=>simp at e;subst e;exact⟨_,rfl,a⟩
 | _,d::ds,i+1,v,r,e=>by
  cases r with
  | cons a b=>
   obtain⟨d',h1,h2⟩:=Reps.get' (i:=i) b (by simpa using e)
   exact⟨d',by simpa using h1,h2⟩
theorem Reps.append:∀{vs us:List V} {ds es:AD},Reps K H vs ds->Reps K H us es->Reps K H (vs++us) (ds++es)
 | _,_,[],_,r,s=>by cases r;exact s
 | _,_,d::ds,_,r,s=>by cases r with | cons a b=>exact .cons a (Reps.append b s)
theorem Reps.drop:∀{vs:List V} {ds:AD} (n:Nat),Reps K H vs ds->Reps K H (vs.drop n) (ds.drop n)
 | _,_,0,r=>r
 | _,[],n+1,r=>by cases r;exact .nil
 | _,d::ds,n+1,r=>by cases r with | cons a b=>exact Reps.drop n b
theorem Reps.take:∀{vs:List V} {ds:AD} (n:Nat),Reps K H vs ds->Reps K H (vs.take n) (ds.take n)
 | _,_,0,r=>.nil
 | _,[],n+1,r=>by cases r;exact .nil
 | _,d::ds,n+1,r=>by cases r with | cons a b=>exact .cons a (Reps.take n b)
theorem Reps.set:∀{vs:List V} {ds:AD} (n:Nat) {v:V} {d:PyData},Reps K H vs ds->Rep K H v d->Reps K H (vs.set n v) (ds.set n d)
 | _,[],n,_,_,r,_=>by cases r;exact .nil
 | _,e::ds,0,_,_,r,s=>by cases r with | cons a b=>exact .cons s b
 | _,e::ds,n+1,_,_,r,s=>by cases r with | cons a b=>exact .cons a (Reps.set n b s)
theorem Reps.dropLast {vs:List V}{ds:AD}(r:Reps K H vs ds):Reps K H vs.dropLast ds.dropLast:=by
 rw[List.dropLast_eq_take,List.dropLast_eq_take,r.length];exact r.take _
theorem Reps.reverse:∀{vs:List V} {ds:AD},Reps K H vs ds->Reps K H vs.reverse ds.reverse
 | _,[],r=>by cases r;exact .nil
 | _,d::ds,r=>by
  cases r with
  | cons a b=>rw[List.reverse_cons,List.reverse_cons];exact(Reps.reverse b).append (.cons a .nil)
theorem r9:∀(l:AC),Reps K H (l.map V.int) (l.map PyData.int)
 | []=>.nil
 | i::l=>.cons (.int i) (r9 l)
theorem Reps.ints:∀{l:AC} {vs:List V},Reps K H vs (l.map PyData.int)->vs=l.map V.int
 | [],_,r=>by cases r;rfl
 | i::l,_,r=>by
  cases r with
  | cons a b=>cases a;rw[Reps.ints b];rfl
end
open Classical in
noncomputable def hid (S:Addr->Prop)(H:Hp):Hp:=λb=>if S b then none else H b
section
variable {S S':Addr->Prop}{H H':Hp}{b:Addr}{o:HO}
theorem hid_some:hid S H b=some o↔¬S b/\H b=some o:=by
 unfold hid;by_cases h:S b
 .rw[Ae h];exact⟨(λe=>nomatch e),λe=>absurd h e.1⟩
 .rw[Ac h];exact⟨λe=>⟨h,e⟩,λe=>e.2⟩
theorem i9:Same (hid S H) H:=λb o e=>(hid_some.mp e).2
theorem F6 (h:Same H H')(y:∀b,S' b->H b≠none->S b):Same (hid S H) (hid S' H'):=λb o e=>by
 obtain⟨a,c⟩:=hid_some.mp e;exact hid_some.mpr ⟨λz=>a (y b z (by rw[c];simp)),h b o c⟩
theorem N6 (h:Same H H'):Same (hid S H) (hid S H'):=F6 h λ_ z _=>z
theorem aI4 (y:∀b,S b->∃u:HM,H b=some u.ho){a:Addr}{xs:List V}(r:Rd H a (.tup xs)):Rd (hid S H) a (.tup xs):=by
 have n:¬S a:=λz=>by
  obtain⟨g,e⟩:=y a z;rcases r with r | ⟨o,r⟩ <;> rw[e]at r <;> replace r:=Ab4 r
  .exact HM.nt r
  .exact HM.nf r
 rcases r with r | ⟨o,r⟩
 .exact .inl (hid_some.mpr ⟨n,r⟩)
 .exact .inr ⟨o,hid_some.mpr ⟨n,r⟩⟩
end
inductive OT where
 | leaf (d:PyData) | tup (ts:List OT) | lst (ts:List OT) | dic (kvs:List (AC×PyData))
mutual
def OT.data:OT->PyData
 | .leaf d=>d
 | .tup ts=>.tuple (OT.datas ts)
 | .lst ts=>.list (OT.datas ts)
 | .dic kvs=>dD kvs
def OT.datas:List OT->AD
 | []=>[]
 | t::ts=>t.data::OT.datas ts
end
mutual
/-- v is the tree t;L: its lists -/
inductive Dp (K:Frag)(Z H:Hp):V->OT->AK->Prop
 | leaf {v:V} {d:PyData}:Rep K Z v d->Dp K Z H v (.leaf d) []
 | tup {a:Addr} {xs:List V} {ts:List OT} {L:AK}:SqT K H a xs->Dps K Z H xs ts L->Dp K Z H (.ref a) (.tup ts) L
 | lst {a:Addr} {xs:List V} {ts:List OT} {L:AK}:H a=some (.lst xs)->Dps K Z H xs ts L->Dp K Z H (.ref a) (.lst ts) (a::L)
 | dic {a:Addr} {kv:List (AC×Addr×V)} {kvs:List (AC×PyData)}:H a=some (L2.dicO a kv)->kv.map (·.1)=kvs.map (·.1)->Reps K Z (kv.map λx=>V.ref x.2.1) (kvs.map λx=>PyData.tuple (x.1.map PyData.int))->Reps K Z (kv.map (·.2.2)) (kvs.map (·.2))->Dp K Z H (.ref a) (.dic kvs) [a]
inductive Dps (K:Frag)(Z H:Hp):List V->List OT->AK->Prop
 | nil:Dps K Z H [] [] []
 | cons {v:V} {t:OT} {vs:List V} {ts:List OT} {L L':AK}:Dp K Z H v t L->Dps K Z H vs ts L'->Dps K Z H (v::vs) (t::ts) (L++L')
end
section
variable {K:Frag}{Z Z' H H':Hp}
mutual
/-- only its lists and what is below count -/
theorem aF5 (y:Same Z Z')(z:∀a xs,Rd H a (.tup xs)->Rd H' a (.tup xs)):∀(t:OT) {v:V} {L:AK},(∀b∈L,H' b=H b)->Dp K Z H v t L->Dp K Z' H' v t L
 | .leaf d,_,_,_,r=>by cases r with | leaf r=>exact .leaf (r.mono y)
 | .tup ts,_,_,e,r=>by cases r with | tup s r=>exact .tup (s.imp (z _ _) id) (p9 y z ts e r)
 | .lst ts,_,_,e,r=>by
  cases r with
  | lst s r=>exact .lst (by rw[e _ (by simp)];exact s) (p9 y z ts (λb h=>e b (by simp[h])) r)
 | .dic kvs,_,_,e,r=>by
  cases r with
  | dic s k g m=>exact .dic (by rw[e _ (by simp)];exact s) k (g.mono y) (m.mono y)
theorem p9 (y:Same Z Z')(e:∀a xs,Rd H a (.tup xs)->Rd H' a (.tup xs)):∀(ts:List OT) {vs:List V} {L:AK},(∀b∈L,H' b=H b)->Dps K Z H vs ts L->Dps K Z' H' vs ts L
 | [],_,_,_,r=>by cases r;exact .nil
 | t::ts,_,_,hl,r=>by
  cases r with
  | cons a b=>exact .cons (aF5 y e t (λb h=>hl b (by simp[h])) a) (p9 y e ts (λb h=>hl b (by simp[h])) b)
end
mutual
theorem aE9:∀(t:OT) {v:V} {L:AK},Dp K Z H v t L->∀b∈L,∃u:HM,H b=some u.ho
 | .leaf d,_,_,r=>by cases r with | leaf r=>intro b h;simp at h
 | .tup ts,_,_,r=>by cases r with | tup s r=>exact p7 ts r
 | .lst ts,_,_,r=>by
  cases r with
  | lst s r=>
   intro b h;rcases Aa1.mp h with rfl | h
   .exact⟨.l _,s⟩
   .exact p7 ts r b h
 | .dic kvs,_,_,r=>by
  cases r with
  | dic s k e y=>
   intro b h;rw[Ad8.mp h];exact⟨.x _ _,s⟩
theorem p7:∀(ts:List OT) {vs:List V} {L:AK},Dps K Z H vs ts L->∀b∈L,∃u:HM,H b=some u.ho
 | [],_,_,r=>by cases r;intro b h;simp at h
 | t::ts,_,_,r=>by
  cases r with
  | cons a b=>
   intro c h;rcases Aa0.mp h with h | h
   .exact aE9 t a c h
   .exact p7 ts b c h
end
theorem bP5 {H:Hp}{v:V}:∀{d:PyData},cC4 d=true->Rep K H v d->cV4 K H v d
 | .none,_,r=>by cases r;rfl
 | .bool _,_,r=>by cases r;rfl
 | .int _,_,r=>by cases r;rfl
 | .str _,_,r=>by cases r;rfl
 | .list _,f,_=>by cases f
 | .dict _,f,_=>by cases f
 | .tuple ds,f,r=>by
  cases r with
  | @tup a xs _ s rs=>
   have z:∀(ds:AD) (xs:List V),(ds.all λd=>match d with | .int _=>true | _=>false)=true->Reps K H xs ds->∃l:AC,ds=l.map PyData.int/\xs=l.map V.int:=λds=>by
    induction ds with
    | nil=>intro xs _ r;cases r;exact⟨[],rfl,rfl⟩
    | cons d ds g=>
     intro xs f r;rw[List.all_cons,Bc]at f;cases r with
     | cons a b=>
      obtain⟨l,e,y⟩:=g _ f.2 b;cases d with
      | int i=>cases a;exact⟨i::l,by rw[e];rfl,by rw[y];rfl⟩
      | _=>cases f.1
   obtain⟨l,e,y⟩:=z ds xs f rs;exact⟨a,l,rfl,e,by rw[<- y];exact s⟩
theorem cO7 {H:Hp}:∀{kv:List (AC×Addr×V)} {kvs:List (AC×PyData)},kvs.all (λx=>cC4 x.2)=true->kv.map (·.1)=kvs.map (·.1)->Reps K H (kv.map λx=>V.ref x.2.1) (kvs.map λx=>PyData.tuple (x.1.map PyData.int))->Reps K H (kv.map (·.2.2)) (kvs.map (·.2))->KvF K H kv kvs
 | [],[],_,_,_,_=>.nil
 | [],_::_,_,e,_,_=>by simp at e
 | _::_,[],_,e,_,_=>by simp at e
 | x::kv,y::kvs,f,e,r1,r2=>by
  simp only[Ac7,Ce]at e r1 r2;rw[List.all_cons,Bc]at f;cases r1 with
  | cons r k=>
   cases r2 with
   | cons g s=>
    refine .cons ⟨e.1,?_,bP5 f.1 g⟩ (cO7 f.2 e.2 k s);have z:cV4 K H (.ref x.2.1) (PyData.tuple (y.1.map PyData.int)):=bP5 (by simp[cC4,List.all_map,Function.comp_def]) r
    obtain⟨a,l,h1,m,Y⟩:=z;cases h1
    have:y.1=l:=by
     have inj:∀(u v:AC),u.map PyData.int=v.map PyData.int->u=v:=λu=>by
      induction u with
      | nil=>intro v h;cases v <;> simp at h ⊢
      | cons c u X=>intro v h;cases v with
       | nil=>simp at h
       | cons U v=>simp at h;rw[h.1,X v h.2]
     exact inj _ _ m
    rw[e.1,this];exact Y
mutual
/-- the tree is a datum,where one sees its lists -/
theorem bY0 (g:Same Z H)(z:∀a xs,Rd H a (.tup xs)->Rd H' a (.tup xs))(e:Same Z H'):∀(t:OT) {v:V} {L:AK},(∀b∈L,H' b=H b)->Dp K Z H v t L->Rep K H' v t.data
 | .leaf d,_,_,_,r=>by cases r with | leaf r=>exact r.mono e
 | .tup ts,_,_,y,r=>by
  cases r with
  | tup s r=>exact .tup (s.imp (z _ _) id) (bK7 g z e ts y r)
 | .lst ts,_,_,y,r=>by
  cases r with
  | lst s r=>exact .lst (SqL.of (by rw[y _ (by simp)];exact s)) (bK7 g z e ts (λb h=>y b (by simp[h])) r)
 | .dic kvs,_,_,y,r=>by
  cases r with
  | dic s k m Y=>
   show Rep K H' _ (dD kvs)
   unfold dD;split
   .rename_i f;exact .dic (by rw[y _ (by simp)];exact s) (bO2 e (cO7 f k m Y)) rfl
   .exact .ptr
theorem bK7 (z:Same Z H)(y:∀a xs,Rd H a (.tup xs)->Rd H' a (.tup xs))(e:Same Z H'):∀(ts:List OT) {vs:List V} {L:AK},(∀b∈L,H' b=H b)->Dps K Z H vs ts L->Reps K H' vs (OT.datas ts)
 | [],_,_,_,r=>by cases r;exact .nil
 | t::ts,_,_,hl,r=>by
  cases r with
  | cons a b=>exact .cons (bY0 z y e t (λb h=>hl b (by simp[h])) a) (bK7 z y e ts (λb h=>hl b (by simp[h])) b)
end
theorem Dp.mono {t:OT}{v:V}{L:AK}(r:Dp K Z H v t L)(z:Same Z Z')(h:Same H H'):Dp K Z' H' v t L:=
 aF5 z (λ_ _=>a7 h) t (λb y=>by obtain⟨xs,e⟩:=aE9 t r b y;rw[e];exact h _ _ e) r
end
inductive Sl where
 | no | val (d:PyData) | own (ds:AD) | bor (d:PyData) | tr (t:OT)
def Sl.os:Sl->Bool
 | .own _=>true
 | .tr _=>true
 | _=>false
def F0 (ρ:List Sl)(o:Nat->AK)(S:Addr->Prop)(b:Addr):Prop:=S b\/∃(i:Nat) (x:Sl),ρ[i]? = some x/\x.os=true/\b∈o i
structure Env (K:Frag)(S:Addr->Prop)(B H:Hp)(σ:St)(ρ:List Sl)(o:Nat->AK):Prop where
 len:σ.length=ρ.length
 base:Same B H
 sl:∀b,S b->∃u:HM,B b=some u.ho
 new:∀(i:Nat) (x:Sl),ρ[i]? = some x->x.os=true->∀b∈o i,B b=none
 inj:∀(i j:Nat) (x y:Sl),ρ[i]? = some x->ρ[j]? = some y->x.os=true->y.os=true->∀b,b∈o i->b∈o j->i=j
 own:∀(i:Nat) (ds:AD),ρ[i]? = some (.own ds)->∃p,o i=[p]/\σ[i]? = some (some (.ref p))/\∃xs,H p=some (.lst xs)/\Reps K (hid (F0 ρ o S) H) xs ds
 val:∀(i:Nat) (d:PyData),ρ[i]? = some (.val d)->∃v,σ[i]? = some (some v)/\Rep K (hid (F0 ρ o S) H) v d
 bor:∀(i:Nat) (d:PyData),ρ[i]? = some (.bor d)->∃v,σ[i]? = some (some v)/\Rep K H v d
 tr:∀(i:Nat) (t:OT),ρ[i]? = some (.tr t)->(o i).Nodup/\∃v,σ[i]? = some (some v)/\Dp K (hid (F0 ρ o S) H) H v t (o i)
section
variable {K:Frag}{S:Addr->Prop}{B H H':Hp}{σ:St}{ρ:List Sl}{o:Nat->AK}
theorem Env.grow (e:Env K S B H σ ρ o)(h:Same H H'):Env K S B H' σ ρ o:=
 ⟨e.len,L2.Same.tr e.base h,e.sl,e.new,e.inj,λi ds z=>by
  obtain⟨p,y,a,xs,b,c⟩:=e.own i ds z;exact⟨p,y,a,xs,h _ _ b,c.mono (N6 h)⟩,λi d z=>by
  obtain⟨v,a,b⟩:=e.val i d z;exact⟨v,a,b.mono (N6 h)⟩,λi d z=>by
  obtain⟨v,a,b⟩:=e.bor i d z;exact⟨v,a,b.mono h⟩,λi t z=>by
  obtain⟨n,v,a,b⟩:=e.tr i t z;exact⟨n,v,a,b.mono (N6 h) h⟩⟩
theorem Env.lists (e:Env K S B H σ ρ o):∀b,F0 ρ o S b->∃u:HM,H b=some u.ho:=λb z=>by
 rcases z with z | ⟨i,x,z,r,y⟩
 .obtain⟨xs,q⟩:=e.sl b z;exact⟨xs,e.base _ _ q⟩
 .cases x with
  | own ds=>
   obtain⟨p,g,_,xs,q,_⟩:=e.own i ds z;rw[g]at y;exact⟨.l xs,by rw[Ad8.mp y];exact q⟩
  | tr t=>
   obtain⟨_,v,_,q⟩:=e.tr i t z;exact aE9 t q b y
  | _=>cases r
theorem Env.imm (e:Env K S B H σ ρ o){v:V}{d:PyData}(i:imm d=true)(r:Rep K H v d):Rep K (hid (F0 ρ o S) H) v d:=
 cF2 (λ_ _ q=>aI4 e.lists q) d i r
def cQ7 (ρ:List Sl)(o:Nat->AK)(b:Addr):Prop:=∃(i:Nat) (x:Sl),ρ[i]? = some x/\x.os=true/\b∈o i
theorem Env.rebase (e:Env K S B H σ ρ o):Env K S (hid (cQ7 ρ o) H) H σ ρ o/\Same B (hid (cQ7 ρ o) H):=by
 have s:Same B (hid (cQ7 ρ o) H):=λb x q=>
  hid_some.mpr ⟨(λ⟨i,y,z,k,r⟩=>by rw[e.new i y z k b r]at q;cases q),e.base b x q⟩
 refine⟨⟨e.len,i9,λb z=>?_,λi x z g b r=>?_,e.inj,e.own,e.val,e.bor,e.tr⟩,s⟩
 .obtain⟨xs,q⟩:=e.sl b z;exact⟨xs,s _ _ q⟩
 .unfold hid;exact Ae ⟨i,x,z,g,r⟩
end
noncomputable def vw (m:Bool)(S:Addr->Prop)(H:Hp):Hp:=match m with | true=>hid S H | false=>H
def E (K:Frag)(m:Bool)(t:TE)(ρ:List Sl)(d:PyData):Prop:=
 ∀(S:Addr->Prop) (B:Hp) (σ:St) (H:Hp) (o:Nat->AK),Env K S B H σ ρ o->∀Q:VK,(∀v H',Same H H'->Rep K (vw m (F0 ρ o S) H') v d->Q v H')->t σ H Q
def EF (K:Frag)(t:TE)(ρ:List Sl)(ds:AD):Prop:=
 ∀(S:Addr->Prop) (B:Hp) (σ:St) (H:Hp) (o:Nat->AK),Env K S B H σ ρ o->∀Q:VK,
  (∀p xs H',Same H H'->H p=none->H' p=some (.lst xs)->Reps K (hid (λb=>F0 ρ o S b\/b=p) H') xs ds->Q (.ref p) H')->t σ H Q
def T (K:Frag)(t:TT)(ρ:List Sl)(b:Bool):Prop:=
 ∀(S:Addr->Prop) (B:Hp) (σ:St) (H:Hp) (o:Nat->AK),Env K S B H σ ρ o->∀Q:Bool->Hp->Prop,(∀H',Same H H'->Q b H')->t σ H Q
def A (K:Frag)(m:Bool)(t:TA)(ρ:List Sl)(ds:AD):Prop:=
 ∀(S:Addr->Prop) (B:Hp) (σ:St) (H:Hp) (o:Nat->AK),Env K S B H σ ρ o->∀Q:List V->Hp->Prop,(∀vs H',Same H H'->Reps K (vw m (F0 ρ o S) H') vs ds->Q vs H')->t σ H Q
structure Wk (K:Frag)(Z:Hp)(J:It)(ds:AD):Prop where
 stop:∀i H,Same Z H->ds.length<=i->J.stop i H
 go:∀i H d,Same Z H->ds[i]? = some d->J.go i H
 yld:∀i H d x H',Same Z H->ds[i]? = some d->J.yld i H x H'->Same H H'/\∀S:Addr->Prop,(∀b,S b->Z b=none/\H b≠none)->Rep K (hid S H') x d
def I (K:Frag)(m:Bool)(wi:TI)(ρ:List Sl)(ds:AD):Prop:=
 ∀(S:Addr->Prop) (B:Hp) (σ:St) (H:Hp) (o:Nat->AK),Env K S B H σ ρ o->∀R:It->Hp->Prop,(∀J H',Same H H'->Wk K (vw m (F0 ρ o S) H') J ds->R J H')->wi σ H R
def G (K:Frag)(m:Bool)(g:TG)(d:PyData)(ρ ρ':List Sl):Prop:=(∀(o:Nat->AK) (S:Addr->Prop) (b:Addr),F0 ρ' o S b->F0 ρ o S b) /\
 ∀(S:Addr->Prop) (B:Hp) (σ:St) (H:Hp) (o:Nat->AK),Env K S B H σ ρ o->∀v,Rep K (vw m (F0 ρ o S) H) v d->∀Q:St->Hp->Prop,(∀σ',Env K S B H σ' ρ' o->Q σ' H)->g v σ H Q
def Gs (K:Frag)(m:Bool)(g:TGs)(ds:AD)(ρ ρ':List Sl):Prop:=(∀(o:Nat->AK) (S:Addr->Prop) (b:Addr),F0 ρ' o S b->F0 ρ o S b) /\
 ∀(S:Addr->Prop) (B:Hp) (σ:St) (H:Hp) (o:Nat->AK),Env K S B H σ ρ o->∀vs,Reps K (vw m (F0 ρ o S) H) vs ds->∀Q:St->Hp->Prop,(∀σ',Env K S B H σ' ρ' o->Q σ' H)->g vs σ H Q
structure AE where
 nx:List Sl->Prop
 rt:PyData->Prop:=λ_=>False
 rl:AD->Prop:=λ_=>False
 bk:List Sl->Prop:=λ_=>False
 ct:List Sl->Prop:=λ_=>False
structure Sat (K:Frag)(S:Addr->Prop)(B:Hp)(R:AE)(D:bH5):Prop where
 nx:∀ρ' σ' H' o',Env K S B H' σ' ρ' o'->R.nx ρ'->D.nx σ' H'
 rt:∀v d H',Same B H'->Rep K (hid S H') v d->R.rt d->D.rt v H'
 rl:∀p xs ds H',Same B H'->B p=none->H' p=some (.lst xs)->Reps K (hid (λb=>S b\/b=p) H') xs ds->R.rl ds->D.rt (.ref p) H'
 bk:∀ρ' σ' H' o',Env K S B H' σ' ρ' o'->R.bk ρ'->D.bk σ' H'
 ct:∀ρ' σ' H' o',Env K S B H' σ' ρ' o'->R.ct ρ'->D.ct σ' H'
def W (K:Frag)(t:TS)(ρ:List Sl)(R:AE):Prop:=
 ∀(S:Addr->Prop) (B:Hp) (D:bH5) (σ:St) (H:Hp) (o:Nat->AK),Env K S B H σ ρ o->Sat K S B R D->t D σ H
section
variable {K:Frag}{ρ ρ' ρ1:List Sl}{m:Bool}{t ta tb tc:TE}{d d':PyData}{ds es:AD}
theorem aH1 {S:Addr->Prop}{H:Hp}:Same (vw m S H) H:=by cases m;exact L2.Same.rf _;exact i9
theorem bI3 {S:Addr->Prop}{H H':Hp}(h:Same H H'):Same (vw m S H) (vw m S H'):=by cases m;exact h;exact N6 h
theorem E.bor (h:E K true t ρ d):E K m t ρ d:=λS B σ H o I Q q=>h S B σ H o I Q λv e s r=>q v e s (by cases m;exact r.mono i9;exact r)
theorem E.imm (h:E K m t ρ d)(i:imm d=true:=by rfl):E K true t ρ d:=λS B σ H o I Q q=>h S B σ H o I Q λv e s r=>q v e s ((I.grow s).imm i (r.mono aH1))
theorem EF.e' (h:EF K t ρ ds):E K m t ρ (.list ds):=E.bor λS B σ H o I Q q=>h S B σ H o I Q λp xs g s n e r=>q _ _ s
 (.lst (SqL.of (hid_some.mpr ⟨(λz=>by obtain⟨k,y⟩:=I.lists p z;rw[n]at y;cases y),e⟩)) (r.mono (F6 (L2.Same.rf _) λb z _=>.inl z)))
theorem A1 {i:Nat}(h:ρ[i]? = some (.val d)):E K m (J7 i) ρ d:=E.bor λS B σ H o I Q q=>by
 obtain⟨v,a,b⟩:=I.val i d h;exact⟨v,a,q v H (L2.Same.rf _) b⟩
theorem K4 {i:Nat}(h:ρ[i]? = some (.own ds)):E K false (J7 i) ρ (.list ds):=λS B σ H o I Q q=>by
 obtain⟨p,e,a,xs,b,c⟩:=I.own i ds h;exact⟨_,a,q _ H (L2.Same.rf _) (.lst (SqL.of b) (c.mono i9))⟩
theorem eA3 {i:Nat}(h:ρ[i]? = some (.bor d)):E K false (J7 i) ρ d:=λS B σ H o I Q q=>by
 obtain⟨v,a,b⟩:=I.bor i d h;exact⟨v,a,q v H (L2.Same.rf _) b⟩
theorem cF3 {v:V}(h:∀H,Rep K H v d):E K m (tC v) ρ d:=λS B σ H o I Q q=>q v H (L2.Same.rf _) (h _)
theorem A9 {i:Int}:E K m (tC (.int i)) ρ (.int i):=cF3 λ_=>.int i
theorem eK4 {b:Bool}:E K m (tC (.bl b)) ρ (.bool b):=cF3 λ_=>.bl b
theorem bD0:E K m (tC .non) ρ .none:=cF3 λ_=>.non
theorem aH4 {x:Str}:E K m (tC (.str x)) ρ (.str x):=cF3 λ_=>.str x
theorem aP6 {r:R2}(g k:Bool)(U:E K g ta ρ d)(J:E K k tb ρ d'){f:PyData}
  (M:∀(S:Addr->Prop) (H:Hp) (x y:V) (Q:VK),(∀b,S b->∃u:HM,H b=some u.ho)->Rep K (vw g S H) x d->Rep K (vw k S H) y d'->(∀v H',Same H H'->Rep K (vw m S H') v f->Q v H')->r x y H Q):E K m (tOp r ta tb) ρ f:=
 λS B σ H o I Q q=>U S B σ H o I _ λx Y e N=>J S B σ Y o (I.grow e) _ λy X z R=>
  M (F0 ρ o S) X x y Q ((I.grow e).grow z).lists (N.mono (bI3 z)) R λv H' s r=>q v H' (L2.Same.tr e (L2.Same.tr z s)) r
theorem bQ0 {r:R2}{i j:Int}{f:PyData}(e:E K false ta ρ (.int i))(z:E K false tb ρ (.int j))(g:∀(H:Hp) (Q:VK),(∀v,(∀H,Rep K H v f)->Q v H)->r (.int i) (.int j) H Q):E K m (tOp r ta tb) ρ f:=
 aP6 false false e z λS H x y Q _ k s q=>by
  cases k;cases s
  exact g H Q λv r=>q v H (L2.Same.rf _) (r _)
theorem L9 {g:Int->Int->Int}{i j:Int}(e:E K false ta ρ (.int i))(y:E K false tb ρ (.int j)):E K m (tOp (rI0 λi j=>.int (g i j)) ta tb) ρ (.int (g i j)):=
 bQ0 e y λH Q q=>⟨i,j,rfl,rfl,q _ λ_=>.int _⟩
theorem e_i {C:Int->Int->Prop}{g:Int->Int->Int}{i j:Int}(e:E K false ta ρ (.int i))(y:E K false tb ρ (.int j))(z:C i j):E K m (tOp (rI C λi j=>.int (g i j)) ta tb) ρ (.int (g i j)):=
 bQ0 e y λH Q q=>⟨i,j,rfl,rfl,z,q _ λ_=>.int _⟩
theorem U7 {g:Int->Int->Bool}{i j:Int}(e:E K false ta ρ (.int i))(y:E K false tb ρ (.int j)):E K m (tOp (rI0 λi j=>.bl (g i j)) ta tb) ρ (.bool (g i j)):=
 bQ0 e y λH Q q=>⟨i,j,rfl,rfl,q _ λ_=>.bl _⟩
end
end LV
namespace LV
open PySem L2
section
variable {K:Frag}{ρ ρ' ρ1:List Sl}{m m':Bool}{t ta tb tc:TE}{d d':PyData}{ds es:AD}
theorem cN3 {H:Hp}{xs:List V}{i:Int}(r:Reps K H xs ds)(e:atI ds i=some d):∃v,atI xs i=some v/\Rep K H v d:=by
 unfold atI at e ⊢;rw[r.length];cases h:ixN ds.length i with
 | none=>rw[h]at e;cases e
 | some j=>rw[h]at e;exact r.get' (by simpa using e)
def sq:PyData->Option (AD)
 | .list ds=>some ds
 | .tuple ds=>some ds
 | _=>none
theorem E4 {i:Int}(g:E K m ta ρ d)(k:E K false tb ρ (.int i))(z:sq d=some ds)(h:atI ds i=some d'):E K m (tOp (rIx K) ta tb) ρ d':=
 aP6 m false g k λS H x y Q _ Y X q=>by
  cases X;cases Y with
  | lst s r=>
   cases z
   obtain⟨v,h1,e⟩:=cN3 r h;exact .inl ⟨_,_,i,v,rfl,rfl,G6 aH1 s,h1,q v H (L2.Same.rf _) e⟩
  | tup s r=>
   cases z
   obtain⟨v,h1,e⟩:=cN3 r h;exact .inr (.inl ⟨_,_,i,v,rfl,rfl,K8 aH1 s,h1,q v H (L2.Same.rf _) e⟩)
  | _=>cases z
theorem M3 {α:Type}{xs:List α}{i:Int}{v:α}(n:Nat)(e:i=n)(h:xs[n]? = some v):atI xs i=some v:=by
 subst e;unfold atI ixN
 have:=(Ab0.mp h).1
 rw[Ae (by lia),Ae (by lia)]
 simpa using h
theorem aF2 {α:Type}{xs:List α}{v:α}:atI (xs++[v]) (-1)=some v:=by
 unfold atI ixN;rw[Ac (by lia),Ae (by simp;lia)]
 have:((-1:Int)+((xs++[v]).length:Nat)).toNat=xs.length:=by simp;lia
 rw[this];simp
theorem B1:A K m S8 ρ []:=λS B σ H o I Q q=>q [] H (L2.Same.rf _) .nil
theorem A5 {tr:TA}(g:E K m ta ρ d)(k:A K m tr ρ ds):A K m (K7 ta tr) ρ (d::ds):=λS B σ H o I Q q=>
 g S B σ H o I _ λx z e s=>k S B σ z o (I.grow e) _ λxs r y rs=>q _ r (L2.Same.tr e y) (.cons (s.mono (bI3 y)) rs)
theorem D8 {H:Hp}{p:Addr}{o:HO}(h:H p=none):Same H (upd H p o):=λb x e=>by
 have:b≠p:=λz=>by rw[z,h]at e;cases e
 rw[A8 this];exact e
theorem o9 {t:TA}(h:A K m t ρ ds)(r:ds.length<=sizeLine:=by first | decide | (unfold sizeLine;simp)):E K m (dW9 t) ρ (.tuple ds):=λS B σ H o I Q q=>h S B σ H o I _ λxs k e rs=>⟨by rw[rs.length];exact r,λp hp=>by
 have g:=D8 (o:=.tup xs) hp
 refine q _ _ (L2.Same.tr e g) (.tup (.inl (.inl ?_)) (rs.mono (bI3 g)));cases m with
 | false=>exact B3
 | true=>exact hid_some.mpr ⟨(λz=>by obtain⟨s,y⟩:=(I.grow e).lists p z;rw[hp]at y;cases y),B3⟩⟩
theorem bC1 {S:Addr->Prop}{H:Hp}{p:Addr}{xs ys:List V}(y:∀b,S b->∃u:HM,H b=some u.ho)(hp:H p=none)(r:Reps K (hid S H) xs ds):Reps K (hid (λb=>S b\/b=p) (upd H p (.lst ys))) xs ds:=
 r.mono (F6 (D8 hp) λb z n=>z.elim id λe=>absurd (by rw[e];exact hp) n)
theorem J8 {t:TA}(h:A K true t ρ ds)(z:ds.length<=sizeLine:=by first | decide | (unfold sizeLine;simp)):EF K (dH6 t) ρ ds:=λS B σ H o I Q q=>h S B σ H o I _ λxs r y rs=>⟨by rw[rs.length];exact z,λp hp=>
 q p xs _ (L2.Same.tr y (D8 hp)) (by cases e:H p with | none=>rfl | some x=>rw[y _ _ e]at hp;cases hp) B3 (bC1 (I.grow y).lists hp rs)⟩
def spV (K:Frag)(pre:AD->PyData->Prop):Sp:=λvs H Q _=>∃(ds:AD) (S:Addr->Prop) (d:PyData),(∀b,S b->∃u:HM,H b=some u.ho)/\Reps K (hid S H) vs ds/\pre ds d /\
 ∀v H',Same H H'->Rep K (hid S H') v d->Q v H'
def spL (K:Frag)(pre:AD->AD->Prop):Sp:=λvs H Q _=>∃(ds:AD) (S:Addr->Prop) (es:AD),(∀b,S b->∃u:HM,H b=some u.ho)/\Reps K (hid S H) vs ds/\pre ds es /\
 ∀p xs H',Same H H'->H p=none->H' p=some (.lst xs)->Reps K (hid (λb=>S b\/b=p) H') xs es->Q (.ref p) H'
theorem cP1 {H:Hp}:hid (λ_=>False) H=H:=by funext b;unfold hid;exact Ac id
theorem E6 {pre:AD->PyData->Prop}{t:TA}{X:XK}(z:A K true t ρ ds)(hp:pre ds d):E K m (bC3 (spV K pre) [] X t) ρ d:=E.bor λS B σ H o I Q q=>
 z S B σ H o I _ λvs g e rs=>⟨ds,F0 ρ o S,d,(I.grow e).lists,by rw[Bl];exact rs,hp,λv y s r=>q v y (L2.Same.tr e s) r⟩
theorem T1 {H H1:Hp}{p:Addr}(s:Same H H1)(h:H1 p=none):H p=none:=by
 cases e:H p with
 | none=>rfl
 | some x=>rw[s _ _ e]at h;cases h
theorem S4 {pre:AD->AD->Prop}{t:TA}{X:XK}(g:A K true t ρ ds)(hp:pre ds es):EF K (bC3 (spL K pre) [] X t) ρ es:=λS B σ H o I Q q=>
 g S B σ H o I _ λvs k y rs=>⟨ds,F0 ρ o S,es,(I.grow y).lists,by rw[Bl];exact rs,hp,λp xs z s n e r=>q p xs z (L2.Same.tr y s) (T1 y n) e r⟩
theorem D1 {b:Bool}(h:E K false t ρ (.bool b)):T K (aS4 t) ρ b:=λS B σ H o I Q q=>h S B σ H o I _ λv e s r=>by cases r;exact⟨b,rfl,q e s⟩
theorem t_b {b:Bool}(h:E K false t ρ (.bool b)):T K (tB t) ρ b:=λS B σ H o I Q q=>h S B σ H o I _ λv e s r=>by cases r;exact⟨b,rfl,q e s⟩
theorem cS0 {u w:TT}{a b:Bool}(h:T K u ρ a)(h':a=true->T K w ρ b):T K (dT4 u w) ρ (a&&b):=λS B σ H o I Q q=>h S B σ H o I _ λy e=>by
 cases a with
 | false=>exact q y e
 | true=>exact h' rfl S B σ y o (I.grow e) _ λz r=>q z (L2.Same.tr e r)
theorem aD0 {u w:TT}{a b:Bool}(h:T K u ρ a)(h':a=false->T K w ρ b):T K (tOr u w) ρ (a||b):=λS B σ H o I Q q=>h S B σ H o I _ λy e=>by
 cases a with
 | true=>exact q y e
 | false=>exact h' rfl S B σ y o (I.grow e) _ λz r=>q z (L2.Same.tr e r)
theorem aZ3 {u:TT}{a:Bool}(h:T K u ρ a):T K (eA0 u) ρ (!a):=λS B σ H o I Q q=>h S B σ H o I _ q
theorem dO5 {a:Bool}{b:Bool}(h:E K false ta ρ (.bool a))(h':a=true->E K false tb ρ (.bool b)):E K m (dK7 ta tb) ρ (.bool (a&&b)):=E.bor (E.imm (m:=false) λS B σ H o I Q q=>h S B σ H o I _ λv y e r=>by
 cases r
 refine⟨a,rfl,?_⟩;cases a with
 | false=>exact q _ y e (.bl _)
 | true=>exact h' rfl S B σ y o (I.grow e) _ λv z g r=>q v z (L2.Same.tr e g) r)
theorem eG7 {a:Bool}(h:E K false ta ρ (.bool a)):E K m (dL6 ta) ρ (.bool (!a)):=E.bor (E.imm (m:=false) λS B σ H o I Q q=>h S B σ H o I _ λv e y r=>by
 cases r
 exact⟨a,rfl,q _ e y (.bl _)⟩)
theorem dF3 {u:TT}{a:Bool}(h:T K u ρ a)(h1:a=true->E K m ta ρ d)(k:a=false->E K m tb ρ d):E K m (tIf u ta tb) ρ d:=λS B σ H o I Q q=>h S B σ H o I _ λg e=>by
 cases a with
 | true=>exact h1 rfl S B σ g o (I.grow e) _ λv y z r=>q v y (L2.Same.tr e z) r
 | false=>exact k rfl S B σ g o (I.grow e) _ λv y z r=>q v y (L2.Same.tr e z) r
theorem dK1 {Z:Hp}{a:Addr}{xs:List V}(s:SqL K Z a xs)(r:Reps K Z xs ds):Wk K Z (Itl K a) ds where
 stop:=λi H h l=>⟨xs,G6 h s,by rw[r.length];exact l⟩
 go:=λi H d h e=>by
  obtain⟨v,h1,_⟩:=r.get' e;exact⟨xs,v,G6 h s,h1⟩
 yld:=λi H d x Y h e y=>by
  obtain⟨rfl,y⟩:=y
  have:=y xs (G6 h s)
  obtain⟨d',h1,g⟩:=r.get this;rw[e]at h1;cases h1;refine⟨L2.Same.rf _,λS k=>g.mono λb o q=>hid_some.mpr ⟨λz=>?_,h b o q⟩⟩
  rw[(k b z).1]at q;cases q
theorem dU4 {Z:Hp}{a:Addr}{xs:List V}(s:SqT K Z a xs)(r:Reps K Z xs ds):Wk K Z (Itt K a) ds where
 stop:=λi H h l=>⟨xs,K8 h s,by rw[r.length];exact l⟩
 go:=λi H d h e=>by
  obtain⟨v,h1,_⟩:=r.get' e;exact⟨xs,v,K8 h s,h1⟩
 yld:=λi H d x Y h e y=>by
  obtain⟨rfl,y⟩:=y
  have:=y xs (K8 h s)
  obtain⟨d',h1,g⟩:=r.get this;rw[e]at h1;cases h1;refine⟨L2.Same.rf _,λS k=>g.mono λb o q=>hid_some.mpr ⟨λz=>?_,h b o q⟩⟩
  rw[(k b z).1]at q;cases q
def P6 (lo:Int)(n:Nat):AD:=(List.range n).map λ(i:Nat)=>PyData.int (lo+(i:Int))
theorem dA3 {Z:Hp}{lo:Int}{n:Nat}:Wk K Z (Itr lo n) (P6 lo n) where
 stop:=λi H h l=>by
  have:n<=i:=by simpa[P6]using l
  exact this
 go:=λi H d h e=>by
  have:=(Ab0.mp e).1
  have:i<n:=by simpa[P6]using this
  exact this
 yld:=λi H d x r h e y=>by
  obtain⟨rfl,rfl⟩:=y
  have:d=.int (lo+i):=by
   have hi:=(Ab0.mp e).1
   have z:i<n:=by simpa[P6]using hi
   unfold P6 at e;rw[Aa9,List.getElem?_range z]at e;exact(Ab4 e).symm
  subst this;exact⟨L2.Same.rf _,λS g=>.int _⟩
theorem U0 (h:E K m t ρ (.list ds)):I K m (dN0 K t) ρ ds:=λS B σ H o J R q=>h S B σ H o J _ λv e y r=>by
 cases r with
 | lst s r=>exact⟨_,rfl,⟨_,G6 aH1 s⟩,q _ e y (dK1 s r)⟩
theorem aW6 (h:E K m t ρ (.tuple ds)):I K m (dY9 K t) ρ ds:=λS B σ H o J R q=>h S B σ H o J _ λv e y r=>by
 cases r with
 | tup s r=>exact⟨_,rfl,⟨_,K8 aH1 s⟩,q _ e y (dU4 s r)⟩
theorem Q4 {t:TA}{j:Int}(h:A K false t ρ [.int j])(h1 : -(2^62)<=j)(y:j<2^62):I K m (dO1 t) ρ (P6 0 j.toNat):=λS B σ H o J R q=>h S B σ H o J _ λvs e z r=>by
 cases r with
 | cons a b=>cases a;cases b;exact⟨j,rfl,h1,y,q _ e z dA3⟩
theorem dV2 {t:TA}{i j:Int}(h:A K false t ρ [.int i,.int j])(y : -(2^62)<=i/\i<2^62 /\ -(2^62)<=j/\j<2^62):I K m (dK4 t) ρ (P6 i (j-i).toNat):=λS B σ H o J R q=>h S B σ H o J _ λvs e z r=>by
 cases r with
 | cons a b=>cases a;cases b with | cons a b=>cases a;cases b;exact⟨i,j,rfl,y,q _ e z dA3⟩
theorem aV0 {o:Nat->AK}{S:Addr->Prop}{i:Nat}{x:Sl}(g:x.os=false){b:Addr}(z:F0 (ρ.set i x) o S b):F0 ρ o S b:=by
 rcases z with z | ⟨j,y,h,r,e⟩
 .exact .inl z
 .refine .inr ⟨j,y,?_,r,e⟩;rw[List.getElem?_set]at h;by_cases c:i=j
  .rw[Ae c]at h;split at h
   .rw[<- Ab4 h,g]at r;cases r
   .cases h
  .rw[Ac c]at h;exact h
def slot (m:Bool)(d:PyData):Sl:=match m with | true=>.val d | false=>.bor d
theorem Env.set {S:Addr->Prop}{B H:Hp}{σ:St}{o:Nat->AK}(I:Env K S B H σ ρ o)(i:Nat){v:V}(r:Rep K (vw m (F0 ρ o S) H) v d):Env K S B H (σ.set i (some v)) (ρ.set i (slot m d)) o:=by
 have J:(slot m d).os=false:=by cases m <;> rfl
 have X:∀{x:Sl},x.os=true->x≠slot m d:=λ{x} h e=>by rw[e,J]at h;cases h
 have at_:∀{j:Nat} {x:Sl},x≠slot m d->(ρ.set i (slot m d))[j]? = some x->i≠j/\ρ[j]? = some x:=λ{j x} s h=>by
  rw[List.getElem?_set]at h;by_cases c:i=j
  .rw[Ae c]at h;split at h
   .exact absurd (Ab4 h).symm s
   .cases h
  .rw[Ac c]at h;exact⟨c,h⟩
 have g:Same (hid (F0 ρ o S) H) (hid (F0 (ρ.set i (slot m d)) o S) H):=F6 (L2.Same.rf _) λb z _=>aV0 J z
 refine⟨by simp[I.len],I.base,I.sl,λj x h s=>I.new j x (at_ (X s) h).2 s,λj k x y h M s U=>I.inj j k x y (at_ (X s) h).2 (at_ (X U) M).2 s U,λj ds h=>?_,λj d' h=>?_,λj d' h=>?_,λj t h=>?_⟩
 .obtain⟨c,h⟩:=at_ (X rfl) h;obtain⟨p,N,a,xs,b,R⟩:=I.own j ds h;exact⟨p,N,by rw[Ad0 c];exact a,xs,b,R.mono g⟩
 .by_cases c:i=j
  .subst c;have Y:i<ρ.length:=by
    have:=(Ab0.mp h).1
    simpa using this
   rw[Be (by simpa using Y)]at h
   cases m with
   | false=>simp[slot]at h
   | true=>
    simp[slot]at h;subst h
    exact⟨v,Be (by rw[I.len];exact Y),r.mono g⟩
  .rw[Ad0 c]at h;obtain⟨u,a,b⟩:=I.val j d' h;exact⟨u,by rw[Ad0 c];exact a,b.mono g⟩
 .by_cases c:i=j
  .subst c;have Y:i<ρ.length:=by
    have:=(Ab0.mp h).1
    simpa using this
   rw[Be (by simpa using Y)]at h
   cases m with
   | true=>simp[slot]at h
   | false=>
    simp[slot]at h;subst h
    exact⟨v,Be (by rw[I.len];exact Y),r⟩
  .rw[Ad0 c]at h;obtain⟨u,a,b⟩:=I.bor j d' h;exact⟨u,by rw[Ad0 c];exact a,b⟩
 .obtain⟨c,h⟩:=at_ (X rfl) h;obtain⟨n,u,a,b⟩:=I.tr j t h;exact⟨n,u,by rw[Ad0 c];exact a,b.mono g (L2.Same.rf _)⟩
theorem bK2:(slot m d).os=false:=by cases m <;> rfl
theorem D5 {i:Nat}:G K m (V6 i) d ρ (ρ.set i (slot m d)):=⟨λo S b z=>aV0 bK2 z,λS B σ H o I v r Q q=>q _ (I.set i r)⟩
theorem aP7:Gs K m cK1 [] ρ ρ:=⟨λ_ _ _ z=>z,λS B σ H o I vs r Q q=>by cases r;exact⟨rfl,q σ I⟩⟩
theorem dT5 {o:Nat->AK}{S:Addr->Prop}{H:Hp}(h:∀(o:Nat->AK) (S:Addr->Prop) (b:Addr),F0 ρ' o S b->F0 ρ o S b):Same (vw m (F0 ρ o S) H) (vw m (F0 ρ' o S) H):=by
 cases m with
 | false=>exact L2.Same.rf _
 | true=>exact F6 (L2.Same.rf _) λb z _=>h o S b z
theorem Q2 {g:TG}{gs:TGs}(h:G K m g d ρ ρ1)(h':Gs K m gs ds ρ1 ρ'):Gs K m (aV7 g gs) (d::ds) ρ ρ':=⟨λo S b z=>h.1 o S b (h'.1 o S b z),λS B σ H o I vs r Q q=>by
 cases r with
 | cons a b=>exact⟨_,_,rfl,h.2 S B σ H o I _ a _ λy e=>h'.2 S B y H o e _ (b.mono (dT5 h.1)) _ q⟩⟩
theorem bD3 {gs:TGs}{n:Nat}(h:Gs K m gs ds ρ ρ')(e:ds.length=n:=by rfl):G K m (dG7 K n gs) (.tuple ds) ρ ρ':=⟨h.1,λS B σ H o I v r Q q=>by
 cases r with
 | tup s r=>exact⟨_,_,rfl,K8 aH1 s,by rw[r.length];exact e,h.2 S B σ H o I _ r _ q⟩⟩
theorem B4 {t u:TS}{R:AE}(h:W K t ρ {R with nx:=λρ'=>W K u ρ' R}):W K (eI0 t u) ρ R:=λS B D σ H o I s=>
 h S B {D with nx:=u D} σ H o I ⟨λρ' r e z y w=>w S B D r e z y s,s.rt,s.rl,s.bk,s.ct⟩
theorem M2 {R:AE}(h:R.nx ρ):W K dL4 ρ R:=λS B D σ H o I s=>s.nx ρ σ H o I h
theorem dO4 {g:TG}{R:AE}(h:E K m t ρ d)(hg:G K m g d ρ ρ')(z:R.nx ρ'):W K (bB0 t g) ρ R:=λS B D σ H o I s=>
 h S B σ H o I _ λv e k r=>hg.2 S B σ e o (I.grow k) v r _ λY y=>s.nx _ Y e o y z
theorem F8 {i:Nat}{R:AE}(h:E K true t ρ d)(e:R.nx (ρ.set i (.val d))):W K (bB0 t (V6 i)) ρ R:=dO4 (ρ' := ρ.set i (.val d)) h D5 e
theorem cN1 {R:AE}(h:E K m t ρ d)(y:R.nx ρ):W K (bA2 t) ρ R:=λS B D σ H o I s=>h S B σ H o I _ λv e z r=>s.nx _ σ e o (I.grow z) y
theorem M8 {R:AE}(h:E K true t ρ d)(y:R.rt d):W K (dE2 t) ρ R:=λS B D σ H o I s=>
 h S B σ H o I _ λv e g r=>s.rt v d e (L2.Same.tr I.base g) (r.mono (F6 (L2.Same.rf _) λb z _=>.inl z)) y
theorem aO8 {R:AE}(h:EF K t ρ ds)(g:R.rl ds):W K (dE2 t) ρ R:=λS B D σ H o I s=>
 h S B σ H o I _ λp xs y k n e r=>s.rl p xs ds y (L2.Same.tr I.base k) (T1 I.base n) e (r.mono (F6 (L2.Same.rf _) λb z _=>z.imp .inl id)) g
theorem cQ8 {i:Nat}{R:AE}(h:ρ[i]? = some (.own ds))(y:R.rl ds):W K (dE2 (J7 i)) ρ R:=λS B D σ H o I s=>by
 obtain⟨p,hp,a,xs,b,c⟩:=I.own i ds h;exact⟨_,a,s.rl _ xs ds H I.base (I.new i _ h rfl _ (by rw[hp];simp)) b (c.mono (F6 (L2.Same.rf _) λb z _=>z.elim .inl λe=>.inr ⟨i,_,h,rfl,by rw[hp,e];simp⟩)) y⟩
theorem V4 {c:TT}{t u:TS}{b:Bool}{R:AE}(h:T K c ρ b)(h1:b=true->W K t ρ R)(z:b=false->W K u ρ R):W K (dB9 c t u) ρ R:=λS B D σ H o I s=>h S B σ H o I _ λe y=>by
 cases b with
 | true=>exact h1 rfl S B D σ e o (I.grow y) s
 | false=>exact z rfl S B D σ e o (I.grow y) s
theorem W.weak {t:TS}{R R':AE}(h:W K t ρ R)(h1:∀ρ,R.nx ρ->R'.nx ρ)(k:∀d,R.rt d->R'.rt d)(Y:∀d,R.rl d->R'.rl d)(X:∀ρ,R.bk ρ->R'.bk ρ)(U:∀ρ,R.ct ρ->R'.ct ρ):W K t ρ R':=λS B D σ H o I s=>
 h S B D σ H o I ⟨λρ' g y r z w=>s.nx ρ' g y r z (h1 _ w),λv d y a b c=>s.rt v d y a b (k _ c),λp xs ds y a b c e w=>s.rl p xs ds y a b c e (Y _ w),λρ' g y r z w=>s.bk ρ' g y r z (X _ w),λρ' g y r z w=>s.ct ρ' g y r z (U _ w)⟩
def bG6 (o:Nat->AK)(i:Nat)(L:AK)(j:Nat):AK:=if j=i then L else o j
theorem U3 {o:Nat->AK}{i:Nat}{L:AK}:bG6 o i L i=L:=Ae rfl
theorem V3 {o:Nat->AK}{i j:Nat}{L:AK}(h:i≠j):bG6 o i L j=o j:=Ac λz=>h z.symm
def Holds (K:Frag)(Z H:Hp)(v:V)(x:Sl)(L:AK):Prop:=
 (∃ds p xs,x=.own ds/\L=[p]/\v=.ref p/\H p=some (.lst xs)/\Reps K Z xs ds)\/∃t,x=.tr t/\L.Nodup/\Dp K Z H v t L
theorem Holds.os {Z H:Hp}{v:V}{x:Sl}{L:AK}(h:Holds K Z H v x L):x.os=true:=by
 rcases h with⟨ds,p,xs,rfl,_⟩ | ⟨t,rfl,_⟩ <;> rfl
def cU5 (ρ:List Sl)(o:Nat->AK)(i:Nat)(b:Addr):Prop:=∃y,ρ[i]? = some y/\y.os=true/\b∈o i
theorem Env.put {S:Addr->Prop}{B H H':Hp}{σ:St}{o:Nat->AK}{v:V}{x:Sl}{L:AK}(I:Env K S B H σ ρ o)(i:Nat)(hi:i<ρ.length)(D:Addr->Prop)(hD:∀b,D b->cU5 ρ o i b)
  (P:∀b y,H b=some y->¬D b->H' b=some y) (hL:∀b∈L,cU5 ρ o i b\/H b=none) (hx:Holds K (hid (λb=>F0 ρ o S b\/b∈L) H') H' v x L)
  (nb:(∀b,¬D b)\/∀(j:Nat) (d:PyData),ρ[j]?≠some (Sl.bor d)):Env K S B H' (σ.set i (some v)) (ρ.set i x) (bG6 o i L):=by
 have hos:=hx.os
 have at_:∀{j:Nat} {y:Sl},i≠j->(ρ.set i x)[j]? = some y->ρ[j]? = some y:=λ{j y} c h=>by rw[Ad0 c]at h;exact h
 have X:(ρ.set i x)[i]? = some x:=Be hi
 have F:∀b,F0 (ρ.set i x) (bG6 o i L) S b->F0 ρ o S b\/b∈L:=λb z=>by
  rcases z with z | ⟨j,y,h,Y,e'⟩
  .exact .inl (.inl z)
  .by_cases c:i=j
   .subst c;rw[U3]at e';exact .inr e'
   .rw[V3 c]at e';exact .inl (.inr ⟨j,y,at_ c h,Y,e'⟩)
 have N:∀b,cU5 ρ o i b->F0 ρ o S b:=λb ⟨y,h1,U,J⟩=>.inr ⟨i,y,h1,U,J⟩
 have g:Same (hid (F0 ρ o S) H) (hid (F0 (ρ.set i x) (bG6 o i L) S) H'):=λb y q=>by
  obtain⟨a,q⟩:=hid_some.mp q;refine hid_some.mpr ⟨λz=>?_,P b y q λz=>a (N b (hD b z))⟩
  rcases F b z with z | z
  .exact a z
  .rcases hL b z with z | z
   .exact a (N b z)
   .rw[z]at q;cases q
 have ht:∀a ys,Rd H a (.tup ys)->Rd H' a (.tup ys):=λa ys r=>by
  have n:¬D a:=λz=>by
   obtain⟨zs,e⟩:=I.lists a (N a (hD a z));rcases r with r | ⟨o,r⟩ <;> rw[e]at r <;> replace r:=Ab4 r
   .exact HM.nt r
   .exact HM.nf r
  rcases r with r | ⟨o,r⟩
  .exact .inl (P _ _ r n)
  .exact .inr ⟨o,P _ _ r n⟩
 have far:∀{j:Nat} {y:Sl},i≠j->ρ[j]? = some y->y.os=true->∀b∈o j,¬D b:=λ{j y} c h Y b s z=>by
  obtain⟨w,h1,U,J⟩:=hD b z;exact c (I.inj i j w y h1 h U Y b J s)
 have kept:∀{j:Nat} {y:Sl},i≠j->ρ[j]? = some y->y.os=true->∀b∈o j,H' b=H b:=λ{j y} c h Y b s=>by
  obtain⟨zs,e⟩:=I.lists b (.inr ⟨j,y,h,Y,s⟩);rw[e];exact P _ _ e (far c h Y b s)
 have Q:∀{j:Nat} {y:Sl},i≠j->ρ[j]? = some y->y.os=true->∀b∈o j,b∉L:=λ{j y} c h Y b s z=>by
  rcases hL b z with⟨w,h1,U,J⟩ | z
  .exact c (I.inj i j w y h1 h U Y b J s)
  .obtain⟨zs,e⟩:=I.lists b (.inr ⟨j,y,h,Y,s⟩);rw[z]at e;cases e
 have base:Same B H':=λb y q=>P b y (I.base b y q) λz=>by
  obtain⟨w,h1,U,J⟩:=hD b z;rw[I.new i w h1 U b J]at q;cases q
 refine⟨by simp[I.len],base,I.sl,λj y h Y b s=>?_,λj k y z h h' Y hz b s M=>?_,λj es h=>?_,λj d' h=>?_,λj d' h=>?_,λj t h=>?_⟩
 .by_cases c:i=j
  .subst c;rw[U3]at s;rcases hL b s with⟨w,h1,U,J⟩ | z
   .exact I.new i w h1 U b J
   .exact T1 I.base z
  .rw[V3 c]at s;exact I.new j y (at_ c h) Y b s
 .by_cases c:i=j
  .subst c;by_cases R:i=k
   .exact R
   .rw[U3]at s;rw[V3 R]at M;exact absurd s (Q R (at_ R h') hz b M)
  .by_cases R:i=k
   .subst R;rw[U3]at M;rw[V3 c]at s;exact absurd M (Q c (at_ c h) Y b s)
   .rw[V3 c]at s;rw[V3 R]at M;exact I.inj j k y z (at_ c h) (at_ R h') Y hz b s M
 .by_cases c:i=j
  .subst c;rw[X]at h;cases h;rw[U3];rcases hx with⟨ds,p,xs,e,U,J,h4,h5⟩ | ⟨t,e,_⟩
   .cases e
    exact⟨p,U,by rw[Be (by rw[I.len];exact hi),J],xs,h4,h5.mono (F6 (L2.Same.rf _) λb z _=>F b z)⟩
   .cases e
  .rw[V3 c];obtain⟨p,o',a,ys,b,r'⟩:=I.own j es (at_ c h);exact⟨p,o',by rw[Ad0 c];exact a,ys,by rw[kept c (at_ c h) rfl p (by rw[o'];simp)];exact b,r'.mono g⟩
 .by_cases c:i=j
  .subst c;rw[X]at h;cases h;cases hos
  .obtain⟨u,a,b⟩:=I.val j d' (at_ c h);exact⟨u,by rw[Ad0 c];exact a,b.mono g⟩
 .by_cases c:i=j
  .subst c;rw[X]at h;cases h;cases hos
  .rcases nb with nb | nb
   .obtain⟨u,a,b⟩:=I.bor j d' (at_ c h);exact⟨u,by rw[Ad0 c];exact a,b.mono λb y q=>P b y q (nb b)⟩
   .exact absurd (at_ c h) (nb j d')
 .by_cases c:i=j
  .subst c;rw[X]at h;cases h;rw[U3];rcases hx with⟨ds,p,xs,e,_⟩ | ⟨t',e,U,J⟩
   .cases e
   .cases e
    exact⟨U,v,Be (by rw[I.len];exact hi),J.mono (F6 (L2.Same.rf _) λb z _=>F b z) (L2.Same.rf _)⟩
  .rw[V3 c];obtain⟨n,u,a,b⟩:=I.tr j t (at_ c h);exact⟨n,u,by rw[Ad0 c];exact a,aF5 g ht t (kept c (at_ c h) rfl) b⟩
theorem Env.setF {S:Addr->Prop}{B H H':Hp}{σ:St}{o:Nat->AK}{p:Addr}{xs:List V}(I:Env K S B H σ ρ o)(i:Nat)(s:Same H H')(n:H p=none)(e:H' p=some (.lst xs))(r:Reps K (hid (λb=>F0 ρ o S b\/b=p) H') xs ds)(hi:i<ρ.length) :
  Env K S B H' (σ.set i (some (.ref p))) (ρ.set i (.own ds)) (bG6 o i [p]):=
 I.put i hi (λ_=>False) (λ_ z=>z.elim) (λb y q _=>s b y q) (λb z=>.inr (by rw[Ad8.mp z];exact n)) (.inl ⟨ds,p,xs,rfl,rfl,rfl,e,r.mono (F6 (L2.Same.rf _) λb z _=>z.imp id λz=>Ad8.mp z)⟩) (.inl λ_ z=>z)
theorem bR3 {α:Type}{l:List α}{i:Nat}{a:α}(h:l[i]? = some a):l.set i a=l:=by
 obtain⟨h1,e⟩:=Ab0.mp h;rw[<- e];exact List.set_getElem_self h1
theorem K2 {i:Nat}{R:AE}(h:EF K t ρ ds)(z:R.nx (ρ.set i (.own ds)))(hi:i<ρ.length:=by first | decide | (simp;done) | (simp[LV.sl0];done)):W K (bB0 t (V6 i)) ρ R:=λS B D σ H o I s=>
 h S B σ H o I _ λp xs y g n e r=>s.nx _ _ y _ (I.setF i g n e r hi) z
theorem Env.upd {S:Addr->Prop}{B H:Hp}{σ:St}{o:Nat->AK}{i:Nat}{p:Addr}{xs:List V}(I:Env K S B H σ ρ o)(h:ρ[i]? = some (.own ds))(hp:o i=[p])(r:Reps K (hid (F0 ρ o S) H) xs es)(nb:∀(j:Nat) (d:PyData),ρ[j]?≠some (Sl.bor d)) :
  Env K S B (upd H p (.lst xs)) σ (ρ.set i (.own es)) (bG6 o i [p]):=by
 have hi:i<ρ.length:=(Ab0.mp h).1
 obtain⟨Y,e,a,X,b,c⟩:=I.own i ds h;rw[hp]at e;cases e;have g:cU5 ρ o i p:=⟨_,h,rfl,by rw[hp];simp⟩
 have os:F0 ρ o S p:=.inr ⟨i,_,h,rfl,by rw[hp];simp⟩
 have:=I.put (H':=L2.upd H p (.lst xs)) (v:=.ref p) (x:=.own es) (L:=[p]) i hi (λb=>b=p) (λb z=>by rw[z];exact g) (λb y q z=>by rw[A8 z];exact q) (λb z=>.inl (by rw[Ad8.mp z];exact g))
  (.inl ⟨es,p,xs,rfl,rfl,rfl,B3,r.mono λb y q=>by
   obtain⟨k,s⟩:=hid_some.mp q;refine hid_some.mpr ⟨λz=>k (z.elim id λz=>by rw[Ad8.mp z];exact os),?_⟩
   rw[A8 (λz=>k (by rw[z];exact os))];exact s⟩) (.inr nb)
 rw[bR3 a]at this;exact this
def V8:List Sl->Bool
 | []=>true
 | .bor _::_=>false
 | _::r=>V8 r
theorem N0:∀{ρ:List Sl},V8 ρ=true->∀(j:Nat) (d:PyData),ρ[j]?≠some (Sl.bor d)
 | [],_,j,d=>by simp
 | .bor _::_,h,_,_=>by cases h
 | .no::r,h,0,d=>by simp
 | .no::r,h,j+1,d=>by simpa using N0 (ρ:=r) h j d
 | .val _::r,h,0,d=>by simp
 | .val _::r,h,j+1,d=>by simpa using N0 (ρ:=r) h j d
 | .own _::r,h,0,d=>by simp
 | .own _::r,h,j+1,d=>by simpa using N0 (ρ:=r) h j d
 | .tr _::r,h,0,d=>by simp
 | .tr _::r,h,j+1,d=>by simpa using N0 (ρ:=r) h j d
theorem P5 {i:Nat}{R:AE}(hi:ρ[i]? = some (.own ds))(h:E K true t ρ d)(y:ds.length<sizeLine)(z:R.nx (ρ.set i (.own (ds++[d]))))(nb:V8 ρ=true:=by rfl) :
  W K (bA2 (tBM K "list" aM9 (J7 i) (K7 t S8))) ρ R:=λS B D σ H o I s=>by
 obtain⟨p,hp,a,xs,b,c⟩:=I.own i ds hi;refine⟨_,a,.inl ⟨rfl,xs,SqL.of b⟩,?_⟩;refine h S B σ H o I _ λv g e r=>?_
 refine⟨_,xs,v,rfl,rfl,e _ _ b,by rw[c.length];exact y,?_⟩
 exact s.nx _ σ _ _ ((I.grow e).upd hi hp ((c.mono (N6 e)).append (.cons r .nil)) (N0 nb)) z
theorem cE5 {S:Addr->Prop}{H:Hp}{o:Nat->AK}{i:Nat}{p:Addr}{xs:List V}(hi:ρ[i]? = some (.own ds))(hp:o i=[p]):Same (hid (F0 ρ o S) H) (hid (F0 (ρ.set i (.own es)) (bG6 o i [p]) S) (L2.upd H p (.lst xs))):=λX x q=>by
 obtain⟨g,Y⟩:=hid_some.mp q;refine hid_some.mpr ⟨λz=>g ?_,?_⟩
 .rcases z with z | ⟨k,y,r,s,e'⟩
  .exact .inl z
  .by_cases e:i=k
   .subst e;rw[U3,<- hp]at e';exact .inr ⟨i,_,hi,rfl,e'⟩
   .rw[Ad0 e]at r;rw[V3 e]at e';exact .inr ⟨k,y,r,s,e'⟩
 .rw[A8 (λz=>g (.inr ⟨i,_,hi,rfl,by rw[hp,z];simp⟩))];exact Y
theorem eG4 {i j:Nat}{R:AE}(hi:ρ[i]? = some (.own (ds++[d])))(k:R.nx ((ρ.set i (.own ds)).set j (.val d)))(nb:V8 ρ=true:=by rfl) :
  W K (bB0 (dZ4 K "list" dP7 (J7 i)) (V6 j)) ρ R:=λS B D σ H o I s=>by
 obtain⟨p,hp,a,xs,b,c⟩:=I.own i _ hi;have g:=c.length;obtain⟨y,h1,r⟩:=c.get' (i:=ds.length) (d:=d) (by simp)
 refine⟨_,a,.inl ⟨rfl,xs,SqL.of b⟩,_,xs,y,rfl,rfl,b,?_,?_⟩
 .rw[g];simpa using h1
 .have e:=c.dropLast
  rw[List.dropLast_concat]at e;have z:=I.upd hi hp e (N0 nb);refine s.nx _ _ _ _ (Env.set (m:=true) z j (r.mono ?_)) k;exact cE5 hi hp
theorem N2 {wi:TI}{g:TG}{tb:TS}{R:AE}(hi:I K true wi ρ ds)(P:Nat->List Sl->Prop)(h0:P 0 ρ)
  (turn:∀i d ρ',ds[i]? = some d->P i ρ'->∃ρ'',G K true g d ρ' ρ''/\W K tb ρ'' {R with nx:=P (i+1),ct:=P (i+1),bk:=R.nx}) (hn:∀ρ',P ds.length ρ'->R.nx ρ'):W K (eA9 wi g tb) ρ R:=λS B D σ H o I0 s=>
 hi S B σ H o I0 _ λJ H1 s1 wk=>by
  obtain⟨I1,sb⟩:=(I0.grow s1).rebase;generalize hB:hid (cQ7 ρ o) H1=B' at I1 sb;have sz:Same (hid (F0 ρ o S) H1) B':=λb x q=>by
   obtain⟨q1,q2⟩:=hid_some.mp q;rw[<- hB];exact hid_some.mpr ⟨λz=>q1 (.inr z),q2⟩
  refine⟨λi m σ' H'=>i<=ds.length/\m=ds.length-i/\∃ρ' U,Env K S B' H' σ' ρ' U/\P i ρ',⟨_,Cn _,rfl,ρ,o,I1,h0⟩,?_⟩
  rintro i k σ' H' ⟨hl,rfl,ρ',U,r,p⟩;have zH:=L2.Same.tr sz r.base;by_cases c:i=ds.length
  .subst c;exact .inl ⟨wk.stop _ _ zH (Aa7 _),s.nx ρ' σ' H' U ⟨r.len,L2.Same.tr sb r.base,λb z=>(I0.sl b z),λi ds z hz b N=>T1 sb (r.new i ds z hz b N),r.inj,r.own,r.val,r.bor,r.tr⟩ (hn ρ' p)⟩
  .have Q:i<ds.length:=by lia
   have hd:ds[i]? = some ds[i]:=Aa2 Q
   obtain⟨ρ'',hg,N⟩:=turn i ds[i] ρ' hd p;refine .inr ⟨wk.go _ _ _ zH hd,λσ2 H2=>∃ρ2 o2,Env K S B' H2 σ2 ρ2 o2/\P (i+1) ρ2,λσ2 H2 ⟨ρ2,o2,I2,p2⟩=>⟨_,by lia,Q,rfl,ρ2,o2,I2,p2⟩,λx M hy=>?_⟩
   obtain⟨s2,hx⟩:=wk.yld _ _ _ _ _ zH hd hy;have rx:=hx (F0 ρ' U S) λb z=>by
    obtain⟨ys,y⟩:=r.lists b z;refine⟨?_,by rw[y];simp⟩
    rcases z with z | ⟨j,es,h',hy,e'⟩
    .unfold vw hid;exact Ae (.inl z)
    .exact T1 sz (r.new j es h' hy b e')
   refine hg.2 S B' σ' M U (r.grow s2) x rx _ λσ2 I2=>N S B' _ σ2 M U I2 ⟨λρ3 σ3 X F Y w=>⟨ρ3,F,Y,w⟩,λv d X a b w=>s.rt v d X (L2.Same.tr sb a) b w,λp xs es X a b c e w=>s.rl p xs es X (L2.Same.tr sb a) (T1 sb b) c e w,
    λρ3 σ3 X F Y w=>s.nx ρ3 σ3 X F ⟨Y.len,L2.Same.tr sb Y.base,λb z=>(I0.sl b z),λi ds z hz b N=>T1 sb (Y.new i ds z hz b N),Y.inj,Y.own,Y.val,Y.bor,Y.tr⟩ w,λρ3 σ3 X F Y w=>⟨ρ3,F,Y,w⟩⟩
theorem bL0 {c:TT}{tb:TS}{R:AE}(P:Nat->List Sl->Prop)(h0:∃k,P k ρ)
  (r:∀k ρ',P k ρ'->∃b,T K c ρ' b/\if b=true then W K tb ρ' {R with nx:=λρ2=>∃k',k'<k/\P k' ρ2,ct:=λρ2=>∃k',k'<k/\P k' ρ2,bk:=R.nx} else R.nx ρ'):W K (dB0 c tb) ρ R:=λS B D σ H o I0 s=>by
 obtain⟨k0,p0⟩:=h0;refine⟨λk g X=>∃ρ' y,Env K S B X g ρ' y/\P k ρ',⟨k0,ρ,o,I0,p0⟩,?_⟩
 rintro k g X ⟨ρ',y,U,p⟩;obtain⟨b,hc,Y⟩:=r k ρ' p;refine hc S B g X y U _ λQ s1=>?_
 cases b with
 | true=>
  rw[Ae rfl]at Y ⊢;refine⟨λσ2 F=>∃k',k'<k/\∃ρ2 o2,Env K S B F σ2 ρ2 o2/\P k' ρ2,λσ2 F ⟨k',e,z⟩=>⟨k',e,z⟩,?_⟩
  exact Y S B _ g Q y (U.grow s1) ⟨λN σ3 H3 M J ⟨k',e,w⟩=>⟨k',e,N,M,J,w⟩,s.rt,s.rl,s.nx,λN σ3 H3 M J ⟨k',e,w⟩=>⟨k',e,N,M,J,w⟩⟩
 | false=>
  rw[Ac Al]at Y ⊢;exact s.nx ρ' g Q y (U.grow s1) Y
def cap:Sl->Sl
 | .own ds=>.bor (.list ds)
 | .tr t=>.bor t.data
 | x=>x
def slC (ρ:List Sl)(n:Nat)(is:AB):List Sl:=List.replicate n .no++is.map λi=>cap ((ρ[i]?).getD .no)
theorem bI0 {n:Nat}{is:AB}{j:Nat}{x:Sl}(h:(slC ρ n is)[j]? = some x)(z:x≠.no):n<=j/\∃i y,is[j-n]? = some i/\ρ[i]? = some y/\cap y=x:=by
 unfold slC at h;by_cases c:j<n
 .rw[By (by simpa using c),Co,Ae c]at h
  exact absurd (Ab4 h).symm z
 .rw[Au (by simpa using c),Bs,Aa9]at h
  refine⟨by lia,?_⟩
  cases e:is[j-n]? with
  | none=>rw[e]at h;cases h
  | some i=>
   rw[e]at h;have h:cap ((ρ[i]?).getD .no)=x:=Ab4 h;cases e':ρ[i]? with
   | none=>rw[e']at h;exact absurd h.symm z
   | some y=>rw[e']at h;exact⟨i,y,rfl,e',h⟩
theorem dC3 {n:Nat}{is:AB}{j:Nat}{x:Sl}(h:(slC ρ n is)[j]? = some x):x.os=false:=by
 cases x with
 | own ds=>
  obtain⟨_,i,y,_,_,e⟩:=bI0 h (by simp)
  cases y <;> simp[cap]at e
 | tr t=>
  obtain⟨_,i,y,_,_,e⟩:=bI0 h (by simp)
  cases y <;> simp[cap]at e
 | _=>rfl
theorem aQ2 {n:Nat}{is:AB}{j:Nat}{x:Sl}{P:Prop}(h:(slC ρ n is)[j]? = some x)(e:x.os=true):P:=by rw[dC3 h]at e;cases e
theorem Env.comp {S:Addr->Prop}{B H:Hp}{σ:St}{o:Nat->AK}(I:Env K S B H σ ρ o)(n:Nat)(is:AB):Env K (F0 ρ o S) H H (stC n is σ) (slC ρ n is) o:=by
 have Y:∀(j:Nat) (i:Nat) v,n<=j->is[j-n]? = some i->σ[i]? = some v->(stC n is σ)[j]? = some v:=λj i v r hi U=>by
  unfold stC;rw[Au (by simpa using r),Bs,Aa9,hi]
  simp[U]
 have g:Same (hid (F0 ρ o S) H) (hid (F0 (slC ρ n is) o (F0 ρ o S)) H):=F6 (L2.Same.rf _) λb z _=>by
  rcases z with z | ⟨j,es,h,s,_⟩
  .exact z
  .exact aQ2 h s
 refine⟨by simp[stC,slC],L2.Same.rf _,I.lists,λj es h X=>aQ2 h X,λj k es fs h _ X=>aQ2 h X,λj es h=>aQ2 h rfl,λj d h=>?_,λj d h=>?_,λj t h=>aQ2 h rfl⟩
 .obtain⟨r,i,y,hi,s,e⟩:=bI0 h (by simp)
  cases y with
  | val d'=>
   cases e
   obtain⟨v,a,b⟩:=I.val i d s;exact⟨v,Y j i _ r hi a,b.mono g⟩
  | _=>simp[cap]at e
 .obtain⟨r,i,y,hi,s,e⟩:=bI0 h (by simp)
  cases y with
  | bor d'=>
   cases e
   obtain⟨v,a,b⟩:=I.bor i d s;exact⟨v,Y j i _ r hi a,b⟩
  | own es=>
   cases e
   obtain⟨p,hp,a,xs,b,c⟩:=I.own i es s;exact⟨_,Y j i _ r hi a,.lst (SqL.of b) (c.mono i9)⟩
  | tr t=>
   cases e
   obtain⟨_,v,a,b⟩:=I.tr i t s;exact⟨_,Y j i _ r hi a,bY0 i9 (λ_ _ z=>z) i9 t (λ_ _=>rfl) b⟩
  | _=>simp[cap]at e
def bH2 (K:Frag)(m:Bool)(ρ:List Sl)(g:TG)(tt:TT)(te:TE)(d:PyData)(r:Option PyData):Prop:=
 ∃ρ',G K m g d ρ ρ'/\match r with
  | none=>T K tt ρ' false
  | some y=>T K tt ρ' true/\E K true te ρ' y
theorem P2 {wi:TI}{n:Nat}{is:AB}{g:TG}{tt:TT}{te:TE}(f:PyData->Option PyData)(hi:I K m wi ρ ds)(hl:ds.length<sizeLine)(M:∀d∈ds,bH2 K m (slC ρ n is) g tt te d (f d)):EF K (cA6 wi n is g tt te) ρ (ds.filterMap f):=λS B σ H o I0 Q q=>
 hi S B σ H o I0 _ λJ Y s1 wk=>by
  have IC:=(I0.grow s1).comp n is
  generalize hS:F0 ρ o S=S' at IC wk q;have lists:∀b,S' b->∃u:HM,Y b=some u.ho:=by rw[<- hS];exact(I0.grow s1).lists
  refine⟨λi k ys P=>i<=ds.length/\k=ds.length-i/\Same Y P/\ys.length<=i/\Reps K (hid S' P) ys ((ds.take i).filterMap f),⟨_,Cn _,rfl,L2.Same.rf _,Aa7 _,by simpa using Reps.nil⟩,?_⟩
  rintro i k ys P ⟨hil,rfl,X,hy,r⟩;refine⟨by lia,?_⟩
  have zH:Same (vw m S' Y) P:=L2.Same.tr aH1 X
  by_cases c:i=ds.length
  .subst c;refine .inl ⟨wk.stop _ _ zH (Aa7 _),λD hD=>?_⟩
   rw[Cg]at r;exact q D ys _ (L2.Same.tr (L2.Same.tr s1 X) (D8 hD)) (T1 (L2.Same.tr s1 X) hD) B3 (bC1 (λb z=>by obtain⟨xs,e⟩:=lists b z;exact⟨xs,X _ _ e⟩) hD r)
  .have s:i<ds.length:=by lia
   have hd:ds[i]? = some ds[i]:=Aa2 s
   have take:(ds.take (i+1)).filterMap f=(ds.take i).filterMap f++(f ds[i]).toList:=by
    rw[Cc s,List.filterMap_append];cases hf:f ds[i] <;> simp[Ak,hf]
   obtain⟨ρ',hg,N⟩:=M ds[i] (Dv s);refine .inr ⟨wk.go _ _ _ zH hd,λx U hx=>?_⟩
   obtain⟨s3,hr⟩:=wk.yld _ _ _ _ _ zH hd hx;have I3:Env K S' Y U (stC n is σ) (slC ρ n is) o:=IC.grow (L2.Same.tr X s3);have eqS:∀b,F0 (slC ρ n is) o S' b->S' b:=λb z=>by
    rcases z with z | ⟨j,es,h,hy,_⟩
    .exact z
    .exact aQ2 h hy
   have rx:Rep K (vw m (F0 (slC ρ n is) o S') U) x ds[i]:=by
    cases m with
    | false=>
     have:=hr (λ_=>False) λb z=>z.elim
     rw[cP1]at this;exact this
    | true=>
     refine hr _ λb z=>?_
     have z':=eqS b z
     obtain⟨xs,e⟩:=lists b z';exact⟨by unfold vw hid;exact Ae z',by rw[X _ _ e];simp⟩
   refine hg.2 S' Y _ U o I3 x rx _ λσ4 I4=>?_
   cases hf:f ds[i] with
   | none=>
    rw[hf]at N take;refine N S' Y σ4 U o I4 _ λH5 F=>?_
    rw[Ac Al];refine⟨_,by lia,s,rfl,L2.Same.tr X (L2.Same.tr s3 F),by lia,?_⟩
    rw[take];simpa using r.mono (N6 (L2.Same.tr s3 F))
   | some y=>
    rw[hf]at N take;refine N.1 S' Y σ4 U o I4 _ λH5 F=>?_
    rw[Ae rfl];refine N.2 S' Y σ4 H5 o (I4.grow F) _ λv H6 s6 rv=>?_
    have R:=L2.Same.tr s3 (L2.Same.tr F s6)
    refine⟨_,by lia,s,rfl,L2.Same.tr X R,by simp;lia,?_⟩
    rw[take];refine(r.mono (N6 R)).append (.cons (rv.mono (F6 (L2.Same.rf _) λb z _=>.inl z)) .nil)
theorem bS4:T K dF4 ρ true:=λS B σ H o I Q q=>q H (L2.Same.rf _)
def sl0 (n:Nat)(ds:AD):List Sl:=ds.map .val++List.replicate (n-ds.length) .no
theorem env0 {S:Addr->Prop}{H:Hp}{N:AG}{vs:List V}(U:∀b,S b->∃u:HM,H b=some u.ho)(r:Reps K (hid S H) vs ds):Env K S H H (L2.m6 N vs) (sl0 N.length ds) (λ_=>[]):=by
 have s:∀(j:Nat) (x:Sl),(sl0 N.length ds)[j]? = some x->x=.no\/∃d,ds[j]? = some d/\x=.val d:=λj x h=>by
  unfold sl0 at h;by_cases c:j<ds.length
  .rw[By (by simpa using c),Aa9,Aa2 c]at h
   exact .inr ⟨_,Aa2 c,(Ab4 h).symm⟩
  .rw[Au (by simpa using c),Co]at h
   split at h
   .exact .inl (Ab4 h).symm
   .cases h
 have y:∀{P:Prop} (j:Nat) (x:Sl),(sl0 N.length ds)[j]? = some x->x.os=true->P:=λj x h Y=>by
  rcases s j _ h with e | ⟨d,_,e⟩ <;> rw[e]at Y <;> cases Y
 have g:Same (hid S H) (hid (F0 (sl0 N.length ds) (λ_=>[]) S) H):=F6 (L2.Same.rf _) λb z _=>by
  rcases z with z | ⟨j,es,h,J,_⟩
  .exact z
  .exact y j es h J
 refine⟨?_,L2.Same.rf _,U,λj es h Y=>y j es h Y,λj k es fs h _ Y=>y j es h Y,λj es h=>y j _ h rfl,λj d h=>?_,λj d h=>?_,λj es h=>y j _ h rfl⟩
 .unfold L2.m6 sl0;simp[r.length]
 .rcases s j _ h with e | ⟨d',X,e⟩
  .cases e
  .cases e
   obtain⟨v,a,b⟩:=r.get' X;refine⟨v,?_,b.mono g⟩;unfold L2.m6
   have:=(Ab0.mp a).1
   rw[By (by simpa using this),Aa9,a];rfl
 .rcases s j _ h with e | ⟨d',_,e⟩ <;> cases e
theorem K1 {t:TS}{N:AG}{vs:List V}{S:Addr->Prop}{H:Hp}{Q:VK}(g:∀b,S b->∃u:HM,H b=some u.ho)(r:Reps K (hid S H) vs ds)(w:W K t (sl0 N.length ds) {nx:=λ_=>d=.none,rt:=λe=>e=d})
  (k:∀v H',Same H H'->Rep K (hid S H') v d->Q v H'):t {nx:=λ_ H'=>Q .non H',rt:=Q} (L2.m6 N vs) H:=
 w S H _ _ H _ (env0 g r) ⟨λρ' U H' X y z=>k _ H' y.base (by rw[z];exact .non),λv e H' s Y z=>k v H' s (by rw[<- z];exact Y),λ_ _ _ _ _ _ _ _ z=>z.elim,λ_ _ _ _ _ z=>z.elim,λ_ _ _ _ _ z=>z.elim⟩
theorem aP0 {t:TS}{N:AG}{vs:List V}{S:Addr->Prop}{H:Hp}{Q:VK}(Y:∀b,S b->∃u:HM,H b=some u.ho)(r:Reps K (hid S H) vs ds)(w:W K t (sl0 N.length ds) {nx:=λ_=>False,rl:=λe=>e=es})
  (k:∀p xs H',Same H H'->H p=none->H' p=some (.lst xs)->Reps K (hid (λb=>S b\/b=p) H') xs es->Q (.ref p) H'):t {nx:=λ_ H'=>Q .non H',rt:=Q} (L2.m6 N vs) H:=
 w S H _ _ H _ (env0 Y r) ⟨λρ' J H' U X z=>z.elim,λv e H' s y z=>z.elim,λp xs g H' s n e y z=>k p xs H' s n e (by rw[<- z];exact y),λ_ _ _ _ _ z=>z.elim,λ_ _ _ _ _ z=>z.elim⟩
end
end LV
namespace L2
open PySem PySem.Spec PyProof.Rows
section
variable {X:Cx}
def CMulB (i j:Int):Prop:=i.natAbs<2^512/\j.natAbs<2^512
theorem cC3 {k:Int}(h:k.natAbs<2^512):Builtin.Int.intBits k<=2^20:=by
 unfold Builtin.Int.intBits;split
 .exact Cn _
 .have:k.natAbs.log2<512:=by
   rcases Nat.eq_zero_or_pos k.natAbs with e | hp
   .rw[e];decide
   .exact(Nat.log2_lt (Nat.ne_of_gt hp)).mpr h
  lia
theorem CMulB.ok {i j:Int}(h:CMulB i j):IntMulOk i j:=.of_bits (cC3 h.1) (cC3 h.2)
theorem R6:OpR X (binaryOp .Mult) (rI CMulB λi j=>.int (i*j)):=opI λ_ _ _ _ _ _ _ e q=>mul_int q e.ok
def bN8:List String:=["int", "bool", "str", "list", "tuple"]
def dS8 (K:Frag)(H:Hp)(T:String):V->Bool->Prop
 | .int _,b=>b=(T == "int")
 | .bl _,b=>b=(T == "int" || T == "bool")
 | .str _,b=>b=(T == "str")
 | .non,b=>b=false
 | .ref p,b=>(∃xs,SqL K H p xs/\b=(T == "list"))\/∃xs,SqT K H p xs/\b=(T == "tuple")
 | _,_=>False
theorem M0 {T:String}(h:T∈bN8):typeOf (.type T)=pure (.type "type"):=by
 simp only[bN8,Aa1,Ac2,or_false]at h;rcases h with rfl | rfl | rfl | rfl | rfl
 .exact meta_int
 .exact meta_bool
 .exact meta_str
 .exact meta_list
 .exact meta_tuple
theorem aQ6 {x:Value}{Tx T:String}{s:Shared}{A:Around}{P:Program}{w:World}{E:Dy}{Q:Dy}(h:T∈bN8)(y:s.TypeIs x Tx)(e:isSubtype (.type Tx) (.type T)=pure true)(q:Q (.bool true) s) :
  wpAny (model P w) A (call (.builtin "isinstance") [x,.type T]) Q E s:=Bk (isinstance_true (M0 h) e) ⟨y,q⟩
theorem cN6:T0 X (.builtin "isinstance") (λxs H Q=>∃x T b,xs=[x,.ty T]/\T∈bN8/\dS8 X.K H T x b/\Q (.bl b) H):=by
 intro N s σ H xs us Q I r h;obtain⟨x,T,b,rfl,y,U,q⟩:=h;cases r with
 | cons J R=>
  cases R with
  | cons D F=>
   cases F;cases D
   have Y:EP X N σ Q (.bool b) s:=⟨.bl b,H,I,rfl,q⟩
   have m:EP X N σ Q (.bool b) {s with toks:=s.toks+1}:=⟨.bl b,H,I.tok _,rfl,q⟩
   have g:=y
   simp only[bN8,Aa1,Ac2,or_false]at g;cases x with
   | int i=>
    obtain⟨t,rfl⟩:=J;cases U;rcases g with rfl | rfl | rfl | rfl | rfl
    .exact aQ6 y (typeIs_int _ _ _) (by rw[Av];kernel_rfl) Y
    all_goals exact Bk (isinstance_false_int (by decide) (M0 y) (by rw[Av];kernel_rfl)) m
   | bl k=>
    cases J
    cases U
    rcases g with rfl | rfl | rfl | rfl | rfl
    .exact aQ6 y (PySem.typeIs_bool _ _) (by rw[Av];kernel_rfl) Y
    .exact aQ6 y (PySem.typeIs_bool _ _) (by rw[Av];kernel_rfl) Y
    all_goals exact Bk (isinstance_false_bool (by decide) (M0 y) (by rw[Av];kernel_rfl)) m
   | str z=>
    obtain⟨t,rfl⟩:=J;cases U;rcases g with rfl | rfl | rfl | rfl | rfl
    .exact Bk (isinstance_false_str (by decide) (M0 y) (by rw[Av];kernel_rfl)) m
    .exact Bk (isinstance_false_str (by decide) (M0 y) (by rw[Av];kernel_rfl)) m
    .exact aQ6 y (typeIs_str _ _ _) (by rw[Av];kernel_rfl) Y
    all_goals exact Bk (isinstance_false_str (by decide) (M0 y) (by rw[Av];kernel_rfl)) m
   | non=>
    cases J
    cases U
    rcases g with rfl | rfl | rfl | rfl | rfl
    all_goals exact Bk (isinstance_false_none (by decide) (M0 y) (by rw[Av];kernel_rfl)) m
   | ref p=>
    cases J
    rcases U with⟨P,M,rfl⟩ | ⟨P,M,rfl⟩
    .obtain⟨its,B,⟨o,n,e,c,_,_⟩,_⟩:=I.list M;rcases g with rfl | rfl | rfl | rfl | rfl
     .exact Bk (isinstance_false_list (by decide) (M0 y) (by rw[Av];kernel_rfl)) ⟨⟨o,e,c⟩,m⟩
     .exact Bk (isinstance_false_list (by decide) (M0 y) (by rw[Av];kernel_rfl)) ⟨⟨o,e,c⟩,m⟩
     .exact Bk (isinstance_false_list (by decide) (M0 y) (by rw[Av];kernel_rfl)) ⟨⟨o,e,c⟩,m⟩
     .exact aQ6 y (⟨o,e,c⟩:s.TypeIs (.ref p) _) (by rw[Av];kernel_rfl) Y
     .exact Bk (isinstance_false_list (by decide) (M0 y) (by rw[Av];kernel_rfl)) ⟨⟨o,e,c⟩,m⟩
    .obtain⟨its,B,⟨o,e,c,n,d⟩,_⟩:=I.tuple M;rcases g with rfl | rfl | rfl | rfl | rfl
     .exact Bk (isinstance_false_tuple (by decide) (M0 y) (by rw[Av];kernel_rfl)) ⟨⟨o,e,c⟩,m⟩
     .exact Bk (isinstance_false_tuple (by decide) (M0 y) (by rw[Av];kernel_rfl)) ⟨⟨o,e,c⟩,m⟩
     .exact Bk (isinstance_false_tuple (by decide) (M0 y) (by rw[Av];kernel_rfl)) ⟨⟨o,e,c⟩,m⟩
     .exact Bk (isinstance_false_tuple (by decide) (M0 y) (by rw[Av];kernel_rfl)) ⟨⟨o,e,c⟩,m⟩
     .exact aQ6 y (⟨o,e,c⟩:s.TypeIs (.ref p) _) (by rw[Av];kernel_rfl) Y
   | _=>exact U.elim
end
theorem bR1 {X:Cx}{x:Str}{T:String}{pos:Pos}(hg:Gl X x)(y:X.mg x=none)(r:bootBuiltins x=some (.type T))(z:x≠"__name__" := by decide)(e:(x==("__debug__" : Str))=false:=by decide):PE X (.Name x pos) (tC (.ty T)):=dK0 (v:=.ty T) hg y r rfl z e
theorem bK6 {i:Nat}:∀v (σ:St) H Q Q',(∀σ' H',Q σ' H'->Q' σ' H')->V6 i v σ H Q->V6 i v σ H Q':=λ_ _ _ _ _ h q=>h _ _ q
theorem bE7:∀v (σ:St) H Q Q',(∀σ' H',Q σ' H'->Q' σ' H')->cK1 v σ H Q->cK1 v σ H Q':=λ_ _ _ _ _ h q=>⟨q.1,h _ _ q.2⟩
theorem bV7 {t:TG}{u:TGs}(a:∀v (σ:St) H Q Q',(∀σ' H',Q σ' H'->Q' σ' H')->t v σ H Q->t v σ H Q')(b:∀v (σ:St) H Q Q',(∀σ' H',Q σ' H'->Q' σ' H')->u v σ H Q->u v σ H Q') :
  ∀v (σ:St) H Q Q',(∀σ' H',Q σ' H'->Q' σ' H')->aV7 t u v σ H Q->aV7 t u v σ H Q':=λ_ _ _ _ _ h ⟨v,r,e,q⟩=>⟨v,r,e,a _ _ _ _ _ (λ_ _ z=>b _ _ _ _ _ h z) q⟩
theorem eL7 {K:Frag}{i j k n:Nat}(h:i<n)(h':j<n):aZ6 n (dG7 K k (aV7 (V6 i) (aV7 (V6 j) cK1))):=
 dY1 (cD2 bK6 (bV7 bK6 bE7) (O8 h) (cD2 bK6 bE7 (O8 h') dX7))
def AllP {α:Type}(p:α->Prop):List α->Prop
 | []=>True
 | a::l=>p a/\AllP p l
theorem AllP.mem {α:Type}{p:α->Prop}:∀{l:List α},AllP p l->∀a∈l,p a
 | _::_,h,a,ha=>(Aa1.mp ha).elim (λe=>e▸h.1) λz=>AllP.mem h.2 a z
theorem Y5 {β:Type}{x:Str}{v:β}:∀{l:List (Str×β)},l.lookup x=some v->(x,v)∈l
 | [],h=>by cases h
 | (y,u)::l,h=>by
  rw[List.lookup_cons]at h;by_cases e:x==y
  .rw[e]at h;have e':x=y:=eq_of_beq e;cases h;subst e';exact Az
  .have z:(x==y)=false:=by simpa using e
   rw[z]at h;exact Ad4 _ (Y5 h)
theorem CScope.of {X:Cx}{scope:Scope}{cl:List (Str×Addr)}{T N':AG}{is:AB}(clos:closureFor scope X.env=pure cl)(kind:scope.kind=.function)
  (r:scope.names.all (λy=>y.2 != .cell&&(y.2 != .local||scope.names.lookup y.1==some .local))=true) (s:AllP (λp=>X.env.cells.lookup p.1=some p.2) cl)
  (m:(relabel scope X.env).names.all (λy=>(y.2 != .cell&&y.2 != .free)||(cl.lookup y.1).isSome)=true) (Y:N'=T++is.map λ(i:Nat)=>((X.N[i]?).getD Str.empty:Str))
  (U:is.all (λi=>decide (i<X.N.length))=true) (J:AllP (λi=>∃x,X.N[i]? = some x/\((relabel scope X.env).names.lookup x=some .cell\/(relabel scope X.env).names.lookup x=some .free)/\(X.env.kindOf x=some .cell\/X.env.kindOf x=some .free)) is):CScope X scope cl T is N' where
 clos:=clos
 cell:=λy z e=>by
  have:=Ac9.mp r y z
  rw[e]at this;simp at this
 kind:=kind
 names:=λy z e=>by
  have:=Ac9.mp r y z
  rw[e]at this;simp at this;exact this
 cap:=λx c h=>s.mem (x,c) (Y5 h)
 has:=λx h=>by
  have g:∀k,(relabel scope X.env).names.lookup x=some k->k=.cell\/k=.free->∃c,cl.lookup x=some c:=λk e R=>by
   have:=Ac9.mp m (x,k) (Y5 e)
   rcases R with rfl | rfl <;> exact Option.isSome_iff_exists.mp this
  rcases h with h | h
  .exact g _ h (.inl rfl)
  .exact g _ h (.inr rfl)
 N:=Y
 lt:=λi hi=>Am (Ac9.mp U i hi)
 capt:=λi hi x e=>by
  obtain⟨y,e',h1,M⟩:=J.mem i hi;rw[e]at e';cases e';exact⟨h1,M⟩
section
variable {X:Cx}
theorem ixK (K:Frag)(h:X.K=K:=by rfl):IxR X (rIx K):=h▸D7
theorem T9 (K:Frag)(h:X.K=K:=by rfl):T0 X (.builtin "len") (λxs H Q=>∃p ys,xs=[.ref p]/\(SqL K H p ys\/SqT K H p ys)/\Q (.int ys.length) H):=h▸N8
theorem cQ2 (K:Frag)(h:X.K=K:=by rfl):T0 X (.builtin "isinstance") (λxs H Q=>∃x T b,xs=[x,.ty T]/\T∈bN8/\dS8 K H T x b/\Q (.bl b) H):=h▸cN6
theorem eK8 (K:Frag)(h:X.K=K:=by rfl):SlR X (dW4 K):=h▸aU7
theorem bY6 (K:Frag)(h:X.K=K:=by rfl):T0 X (.type "tuple") (λxs H Q=>∃p ys,xs=[.ref p]/\((SqL K H p ys/\∀l,H l=none->Q (.ref l) (upd H l (.tup ys)))\/(SqT K H p ys/\Q (.ref p) H))):=h▸aH5
theorem eG8 (K:Frag)(h:X.K=K:=by rfl):T0 X (.type "list") (λxs H Q=>∃p ys,xs=[.ref p]/\(SqL K H p ys\/SqT K H p ys)/\∀l,H l=none->Q (.ref l) (upd H l (.lst ys))):=h▸bG7
end
end L2
namespace LV
open PySem L2
section
variable {K:Frag}{ρ ρ' ρ1:List Sl}{m m':Bool}{t ta tb tc:TE}{d d':PyData}{ds es:AD}
theorem aD5 {i j:Int}(e:E K false ta ρ (.int i))(y:E K false tb ρ (.int j)):E K m (tOp rEq ta tb) ρ (.bool (decide (i=j))):=
 bQ0 e y λH Q q=>⟨rfl,by
  have:decide (V.int i=V.int j)=decide (i=j):=by simp
  rw[this];exact q _ λ_=>.bl _⟩
theorem aH6 {i j:Int}(e:E K false ta ρ (.int i))(y:E K false tb ρ (.int j)):E K m (tOp rNe ta tb) ρ (.bool (!decide (i=j))):=
 bQ0 e y λH Q q=>⟨rfl,by
  have:decide (V.int i=V.int j)=decide (i=j):=by simp
  rw[this];exact q _ λ_=>.bl _⟩
theorem aS2 {i:Int}(y:E K false ta ρ (.int i)):E K m (tUn (rU λi=>.int (-i)) ta) ρ (.int (-i)):=E.bor (E.imm (m:=false) λS B σ H o I Q q=>y S B σ H o I _ λv e z r=>by
 cases r
 exact⟨i,rfl,q _ e z (.int _)⟩)
theorem cR4 {r:List V->Hp->VK->Prop}{t:TA}(y:A K false t ρ ds)(z:∀(H:Hp) (vs:List V) (Q:VK),Reps K H vs ds->(∀v,(∀H,Rep K H v d)->Q v H)->r vs H Q):E K m (tCB r t) ρ d:=λS B σ H o I Q q=>
 y S B σ H o I _ λvs e k rs=>z e vs Q rs λv g=>q v e k (g _)
theorem O7 {t:TA}(e:A K false t ρ [d])(h:sq d=some ds:=by rfl):E K m (tCB (λxs H Q=>∃p ys,xs=[.ref p]/\(SqL K H p ys\/SqT K H p ys)/\Q (.int ys.length) H) t) ρ (.int ds.length):=cR4 e λH vs Q r q=>by
 cases r with
 | cons a b=>
  cases b
  cases a with
  | lst s r=>cases h;exact⟨_,_,rfl,.inl s,by rw[r.length];exact q _ λ_=>.int _⟩
  | tup s r=>cases h;exact⟨_,_,rfl,.inr s,by rw[r.length];exact q _ λ_=>.int _⟩
  | _=>cases h
theorem cQ1 {t:TA}{b:Bool}(e:A K false t ρ [.bool b]):E K m (tCB (λxs H Q=>(∃i,xs=[.int i]/\Q (.int i) H)\/∃k,xs=[.bl k]/\Q (.int (if k then 1 else 0)) H) t) ρ (.int (if b then 1 else 0)):=cR4 e λH vs Q r q=>by
 cases r with
 | cons a c=>
  cases c;cases a
  exact .inr ⟨b,rfl,q _ λ_=>.int _⟩
def eJ0 (T:String):PyData->Bool
 | .int _=>T == "int"
 | .bool _=>T == "int" || T == "bool"
 | .str _=>T == "str"
 | .list _=>T == "list"
 | .tuple _=>T == "tuple"
 | _=>false
def xNo:PyData->Bool
 | .dict _=>false
 | _=>true
theorem bN7 {T:String}(k:E K false ta ρ d)(g:T∈bN8:=by decide)(y:xNo d=true:=by first | rfl | assumption):E K m (tCB (λxs H Q=>∃x T b,xs=[x,.ty T]/\T∈bN8/\dS8 K H T x b/\Q (.bl b) H) (K7 ta (K7 (tC (.ty T)) S8))) ρ (.bool (eJ0 T d)):=E.bor (E.imm (m:=false) λS B σ H o I Q q=>k S B σ H o I _ λv z Y r=>by
 refine⟨v,T,eJ0 T d,rfl,g,?_,q _ z Y (.bl _)⟩;cases r with
 | lst s r=>exact .inl ⟨_,s,rfl⟩
 | tup s r=>exact .inr ⟨_,s,rfl⟩
 | exc e=>exact absurd y (by simp[xNo])
 | ptr=>exact absurd y (by simp[xNo])
 | adr=>exact absurd y (by simp[xNo])
 | ins _=>exact absurd y (by simp[xNo])
 | ing _ _=>exact absurd y (by simp[xNo])
 | exd _ _ _=>exact absurd y (by simp[xNo])
 | dki _ _=>exact absurd y (by simp[xNo])
 | dic _ _ _=>exact absurd y (by simp[xNo])
 | _=>rfl)
theorem cY7 (e:E K false ta ρ d):E K m (tOp (λx y H Q=>y=.non/\Q (.bl (decide (x=.non))) H) ta (tC .non)) ρ (.bool (match d with | .none=>true | _=>false)):=aP6 false false e bD0 λS H x y Q _ z r q=>by
 cases r
 refine⟨rfl,q _ H (L2.Same.rf _) ?_⟩;cases z <;> exact .bl _
theorem cX4 (e:E K false ta ρ d):E K m (tOp (λx y H Q=>y=.non/\Q (.bl (!decide (x=.non))) H) ta (tC .non)) ρ (.bool (match d with | .none=>false | _=>true)):=aP6 false false e bD0 λS H x y Q _ z r q=>by
 cases r
 refine⟨rfl,q _ H (L2.Same.rf _) ?_⟩;cases z <;> exact .bl _
end
end LV
namespace LV
open PySem PySem.Spec PyProof.Rows L2
section
variable {X:Cx}{aA:Dz}{σ:L2.St}{H:Hp}{s:Shared}
mutual
theorem T6 (I:Inv X aA σ H s):∀(d:PyData) {v:V} {u:Value},d.canLay0=true->Rep X.K H v d->RelV v u->∃as,Reads s.heap u d as
 | .none,_,_,_,r,q=>by cases r;cases q;exact⟨_,.none⟩
 | .bool _,_,_,_,r,q=>by cases r;cases q;exact⟨_,.bool _⟩
 | .int _,_,_,_,r,q=>by cases r;obtain⟨t,rfl⟩:=q;exact⟨_,.int _ _⟩
 | .str _,_,_,_,r,q=>by cases r;obtain⟨t,rfl⟩:=q;exact⟨_,.str _ _⟩
 | .tuple ds,_,_,c,r,q=>by
  cases r with
  | tup sq rs=>
   cases q
   obtain⟨its,g,⟨o,e,y,n,d⟩,_⟩:=I.tuple sq;obtain⟨as,z⟩:=aK0 I ds (by simpa[PyData.canLay0]using c) rs g
   exact⟨_,.tuple e y d (by simpa using z)⟩
 | .list ds,_,_,c,r,q=>by
  cases r with
  | lst sq rs=>
   cases q
   obtain⟨its,g,⟨o,n,e,y,_,d⟩,_⟩:=I.list sq;obtain⟨as,z⟩:=aK0 I ds (by simpa[PyData.canLay0]using c) rs g
   exact⟨_,.list e y d (by simpa using z)⟩
 | .dict _,_,_,c,_,_=>by simp[PyData.canLay0]at c
theorem aK0 (I:Inv X aA σ H s):∀(ds:AD) {vs:List V} {us:AF},PyData.canLayAll0 ds=true->Reps X.K H vs ds->Vals vs us->∃as,ReadsAll s.heap us ds as
 | [],_,_,_,r,q=>by cases r;cases q;exact⟨_,.nil⟩
 | d::ds,_,_,c,r,q=>by
  have e:d.canLay0=true/\PyData.canLayAll0 ds=true:=by simpa[PyData.canLayAll0]using c
  cases r with
  | cons a b=>
   cases q with
   | cons y z=>
    obtain⟨as,h1⟩:=T6 I d e.1 a y;obtain⟨bs,g⟩:=aK0 I ds e.2 b z;exact⟨_,.cons h1 g⟩
end
def Fit (d:PyData):Prop:=d.canLay0=true/\d.depth<=32
def eI5 (K:Frag)(neg:Bool):R2:=λx y H Q=>∃d e,Rep K H x d/\Rep K H y e/\Fit d/\Fit e/\Q (.bl (if neg then !PyData.eqv d e else PyData.eqv d e)) H
def dD6 (K:Frag)(neg:Bool):R2:=λx y H Q=>∃d e ds,Rep K H x d/\Rep K H y e/\sq e=some ds/\Fit d/\Fit e/\Q (.bl (if neg then !ds.any λz=>PyData.eqv z d else ds.any λz=>PyData.eqv z d)) H
theorem dR7 (K:Frag){k:Nat}(Y:Room k X.A)(h:X.K=K:=by rfl):OpR X (compareOp .NotEq) (eI5 K true):=by
 subst h;intro N s σ H x y v u Q I J M ⟨d,e,g,m,z,r,q⟩;obtain⟨R,U⟩:=T6 I d z.1 g J;obtain⟨bs,rb⟩:=T6 I e r.1 m M;exact SeqAt.compareNe_reads U rb z.1 r.1 (by have:=Y.un;have:=z.2;lia) ⟨.bl _,H,I,rfl,q⟩
theorem aT9 {ds:AD}(h:Fit (.list ds)\/Fit (.tuple ds)):PyData.canLayAll0 ds=true/\PyData.depthAll ds<=32:=by
 rcases h with⟨a,b⟩ | ⟨a,b⟩ <;> simp only[PyData.canLay0,PyData.depth]at a b <;> exact⟨a,by lia⟩
theorem bH0 (K:Frag){k:Nat}(U:Room k X.A)(h:X.K=K:=by rfl):OpR X (compareOp .In) (dD6 K false):=by
 subst h;intro M s σ H x y v u Q I F B ⟨d,e,ds,R,D,Y,r,m,q⟩;obtain⟨P,J⟩:=T6 I d r.1 R F;obtain⟨bs,rb⟩:=T6 I e m.1 D B;have g:EP X M σ Q (.bool (ds.any λz=>PyData.eqv z d)) s:=⟨.bl _,H,I,rfl,q⟩
 cases e with
 | list N=>
  cases Y
  have:=aT9 (.inl m)
  exact SeqAt.in_list_reads rb J this.1 r.1 (by have:=U.un;have:=r.2;lia) g
 | tuple N=>
  cases Y
  have:=aT9 (.inr m)
  exact SeqAt.in_tuple_reads rb J this.1 r.1 (by have:=U.un;have:=r.2;lia) g
 | _=>cases Y
theorem aO7 (K:Frag){k:Nat}(U:Room k X.A)(h:X.K=K:=by rfl):OpR X (compareOp .NotIn) (dD6 K true):=by
 subst h;intro M s σ H x y v u Q I F B ⟨d,e,ds,R,D,Y,r,m,q⟩;obtain⟨P,J⟩:=T6 I d r.1 R F;obtain⟨bs,rb⟩:=T6 I e m.1 D B;have g:EP X M σ Q (.bool (!ds.any λz=>PyData.eqv z d)) s:=⟨.bl _,H,I,rfl,q⟩
 cases e with
 | list N=>
  cases Y
  have:=aT9 (.inl m)
  exact SeqAt.notIn_list_reads rb J this.1 r.1 (by have:=U.un;have:=r.2;lia) g
 | tuple N=>
  cases Y
  have:=aT9 (.inr m)
  exact SeqAt.notIn_tuple_reads rb J this.1 r.1 (by have:=U.un;have:=r.2;lia) g
 | _=>cases Y
theorem U4:∀{l:AC} {its:AF},Vals (l.map V.int) its->IntsAre its l
 | [],_,r=>by cases r;exact .nil
 | i::l,_,r=>by
  cases r with
  | cons a b=>
   obtain⟨t,rfl⟩:=a;exact .cons _ _ (U4 b)
theorem bW9 {k:Int}:∀{l:AC} {m:Nat} (hm:m<l.length),m<l.idxOf k->l[m]≠k
 | [],m,hm,_=>by simp at hm
 | a::l,m,hm,h=>by
  rw[List.idxOf_cons]at h;by_cases e:a=k
  .subst e;simp at h
  .have y:(a==k)=false:=by simpa using e
   rw[y]at h;simp only[cond_false]at h;cases m with
   | zero=>simpa using e
   | succ m=>exact bW9 (l:=l) (m:=m) (by simpa using hm) (by lia)
theorem cV6 {A:Around}{P:Program}{w:World}{E:Dy}{l:Addr}{vs:AF}{ns:AC}{Q:Dy}(X:A.handled=none)(m:s.heap.IsList l vs.toArray)(hi:IntsAre vs ns)(z:0<ns.length)
  (h:∀h' M (t:Tok) tk,(∀b o,s.heap.get? b=some o->h'.get? b=some o)->M∈ns->(∀a,a∈ns->M<=a)->Q (.int M t) {s with heap:=h',toks:=tk}):wpAny (model P w) A (call (.builtin "min") [.ref l]) Q E s:=by
 obtain⟨xs,e⟩:=hi.allInts.items;have y:ns=xs.toList.map (·.1):=by rw[<- hi.numsOf,<- nums_intItems,<- e]
 have r:0<xs.size:=by
  have g:=z;rw[y,Aa3,Ap]at g;exact g
 rw[e]at m;refine min_intList X m r λv h' tk N J=>?_
 obtain⟨t,rfl⟩:=intItems_at N;obtain⟨h1,Y⟩:=argBest_lt (numAt xs) (xs.size-1);refine h _ _ t tk J ?_ λa k=>?_
 .rw[y,numAt_eq];exact getD_mem (by rw[Aa3,Ap];lia)
 .rw[y]at k;obtain⟨j,U,rfl⟩:=mem_getD k;rw[Aa3,Ap]at U;rw[<- numAt_eq];exact Y j (by lia)
theorem cI5 (K:Frag)(g:X.calm=true)(h:X.K=K:=by rfl):T0 X (.builtin "min") (λxs H Q=>∃(p:Addr) (l:AC),xs=[.ref p]/\SqL K H p (l.map V.int)/\l≠[]/\∀M,M∈l->(∀a∈l,M<=a)->Q (.int M) H):=by
 subst h;intro N s σ H xs D Q I r ⟨p,l,e,m,y,q⟩;subst e;obtain⟨u,rfl,J⟩:=V7 r;cases J;obtain⟨its,U,Y,_⟩:=I.list m;exact cV6 (I.ok.hd g) Y.isList (U4 U) (Dt.mpr y) λR M t tk k h1 z=>⟨.int M,H,I.kept k,⟨_,rfl⟩,q M h1 z⟩
theorem cM3 (K:Frag)(h:X.K=K:=by rfl):MtR X "list.index" (λx xs H Q=>∃(p:Addr) (l:AC) (k:Int),x=.ref p/\xs=[.int k]/\SqL K H p (l.map V.int)/\k∈l/\Q (.int (l.idxOf k)) H):=by
 subst h;intro aA s σ H x xs v us Q I rx rv ⟨p,l,k,D,B,hq,P,q⟩;subst D;subst B;cases rx;obtain⟨u,rfl,t,rfl⟩:=V7 rv;obtain⟨its,r,⟨o,n,e,c,N,d⟩,hz⟩:=I.list hq;obtain⟨oc,od,J,M⟩:=o;dsimp only at c N d;subst c;subst N;subst d;have Y:=r.length;rw[Aa3]at Y;have g:l.idxOf k<l.length:=Cb.mpr P;have at_:∀(j:Nat) (g:j<its.toArray.size),∃t,its.toArray[j]=Value.int (l[j]'(by simpa[Y]using g)) t:=λj g=>by
  have U:j<l.length:=by simpa[Y]using g
  obtain⟨u,h1,t,rfl⟩:=r.get (i:=j) (x:=.int l[j]) (by rw[Aa9,Aa2 U];rfl)
  have:=(Ab0.mp h1).2
  exact⟨t,by simpa using this⟩
 have hz':=aK2
 rw[Aa3]at hz;refine call_meets F.slot_list_index ⟨_,e,rfl⟩ F.entry_list_index (F.args_list_index_2 _ _) (SeqAt.list_indexAt p its.toArray n none M (.int k t) (λy=>match y with | .int i _=>i==k | _=>false) (l.idxOf k) (by simpa[<- Y]using g) (by lia) ?_ ?_) ⟨e,λy hy=>?_,?_⟩
 .obtain⟨R,e'⟩:=at_ (l.idxOf k) (by simpa[<- Y]using g)
  rw[e'];simp
 .intro m hm hlt;obtain⟨R,e'⟩:=at_ m hm;rw[e']
  have:l[m]'(by simpa[Y]using hm)≠k:=λz=>by
   have h1:m<l.length:=by simpa[Y]using hm
   exact bW9 h1 hlt z
  simpa using this
 .obtain⟨j,g,rfl⟩:=Array.mem_iff_getElem.mp hy;obtain⟨R,e'⟩:=at_ j g;rw[e'];exact SeqAt.EqAt.int_int _ _ _ _
 .exact⟨.int _,H,I.tok _,⟨_,rfl⟩,q⟩
end
theorem aU4:∀{vs:List V} {us:AF},vs.length=us.length->(∀(j:Nat) v u,vs[j]? = some v->us[j]? = some u->RelV v u)->Vals vs us
 | [],[],_,_=>.nil
 | v::vs,u::us,hl,h=>.cons (h 0 v u rfl rfl) (aU4 (by simpa using hl) λj v u e1 e2=>h (j+1) v u (by simpa using e1) (by simpa using e2))
 | [],_::_,hl,_=>by simp at hl
 | _::_,[],hl,_=>by simp at hl
section
variable {X:Cx}
def dK8 (ta:TA):TE:=λσ H Q=>ta σ H λvs H1=>∃i j:Int,vs=[.int i,.int j]/\∀p,H1 p=none->Q (.ref p) (upd H1 p (.rng i j))
theorem dD7 {a b:Expr}{ta:TA}{p pos:Pos}(hg:Gl X "range")(m:X.mg "range" = none)(k:PA X [a,b] ta)(Y:starEach [a,b] X.env=[(false,eval a X.env),(false,eval b X.env)]:=by rfl)(y:starEach [b] X.env=[(false,eval b X.env)]:=by rfl) :
  PE X (.Call (.Name "range" p) [a,b] [] pos) (dK8 ta):=by
 refine⟨?_⟩;intro g s σ H Q I h;refine Call_ (R9 I hg m boot_range (An (thn (k pos g s σ H _ I h) λF R ⟨vs,N,z,M,U⟩=>?_) (by rw[Y,y]) (by rw[y];rfl)))
 obtain⟨i,j,e,q⟩:=U;subst e;cases M with
 | cons r rr=>
  cases rr with
  | cons J rr=>
   cases rr
   obtain⟨t,rfl⟩:=r;obtain⟨D,rfl⟩:=J;refine call_range_2 ?_;refine⟨.ref _,_,z.laid (λb o e=>Aa6 _ e) (Aa7 _) (show ObjOk X.prog X.w _ _ _ (.rng i j) from⟨_,_,_,Ac3 _ rfl⟩),rfl,q _ (z.hok.fresh (Aa7 _))⟩
def a9 (lo:Int)(n:Nat):List V:=(List.range n).map λ(k:Nat)=>V.int (lo+(k:Int))
theorem aG5 (F:X.calm=true):T0 X (.type "list") (λxs H Q=>∃(r:Addr) (i j:Int),xs=[.ref r]/\H r=some (.rng i j)/\(-(2^62)<=i/\i<2^62 /\ -(2^62)<=j/\j<2^62/\j-i<=1000000)/\∀l,H l=none->Q (.ref l) (upd H l (.lst (a9 i (j-i).toNat)))):=by
 intro aA s σ H xs us Q I r ⟨m,i,j,e,hq,⟨h1,N,R,D,h5⟩,q⟩;subst e;obtain⟨u,rfl,rx⟩:=V7 r;cases rx;obtain⟨t,u,v,e⟩:=I.hok m _ hq;have P:Builtin.Range.rangeSize i j 1=((j-i).toNat:Int):=by rw[rangeSize_one];split <;> lia
 refine call_list_range (I.ok.hd F) (show IsRange s.heap m i j 1 t u v from e) (small_one h1 N R D) P (by lia) λM tk y Y kp J it=>?_
 have rv:Vals (a9 i (j-i).toNat) y.toList:=by
  obtain⟨hz,g⟩:=it;refine aU4 (by simp[a9,hz]) λk v u z U=>?_
  obtain⟨t,rfl⟩:=g k u (by simpa using U)
  have B:k<(j-i).toNat:=by
   have:=(Ab0.mp z).1
   simpa[a9]using this
  unfold a9 at z;rw[Aa9,List.getElem?_range B]at z;cases z;exact⟨t,by simp⟩
 refine⟨.ref s.heap.objs.size,_,I.laid kp (Aa7 _) (show ObjOk X.prog X.w _ M _ (.lst _) from⟨?_,y.toList,Y,rv,by simpa using J⟩),rfl,q _ (I.hok.fresh (Aa7 _))⟩
 simp[a9];unfold sizeLine;lia
end
end LV
namespace PySem
open Sem (wp)
theorem bU3:typeLookup (.type "list_reverseiterator") "__len__" = pure none:=by rw[typeLookup_type,builtinLookup_eq_fast];kernel_rfl
theorem cZ1:typeLookup (.type "list_reverseiterator") "__length_hint__" = pure (some (.builtin "list_reverseiterator.__length_hint__")):=by rw[typeLookup_type,builtinLookup_eq_fast];kernel_rfl
section
variable {prog:Program}{w:World}{A:Around}{E:Dy}{s:Shared}
theorem aR3 {R:Result->Shared->Prop}(P:A.handled=none){r l:Addr}{items:AH}(y:s.heap.IsRevIter r l ((items.size:Int)-1))(hl:s.heap.IsList l items)(J:l≠r)(S:Addr)(z:S≠r)(X:S≠l)(res:Value)(M:Nat)(D:s.heap.get? S=some {cls:=.type "list",data:=.seq #[] M})
  (hR:∀h' tk acc' c',(∀b o,b≠S->b≠r->s.heap.get? b=some o->h'.get? b=some o)->h'.get? S=some {cls:=.type "list",dict:=none,data:=.seq acc' c',slots := #[]} ->
   ItemsOf (λi v=>items[items.size-1-i]? = some v) acc' items.size->R (.ok (.ret res)) {s with heap:=h',toks:=tk}) (hn:items.size<=sizeLine) :
  wpAny (model prog w) A.in1 (Builtin.List.listExtendWith (.ref S) (.ref r) res)
   (λfin s'=>match fin with | .done f=>R (.ok f) s' | .again c'=>c'.quiet=true/\codeAny (model prog w) A c' R s') (λe s'=>R (.error e) s') s:=by
 have Y:S∉[r,l]:=λk=>by simp at k;rcases k with h | h;exact z h;exact X h
 unfold Builtin.List.listExtendWith;refine Aa (wpAny_typeOf y.typeIs ?_);have h1:Builtin.List.listSameRef (.ref S) (.ref r)=false:=by simp[Builtin.List.listSameRef,z]
 have N:(Value.type "list_reverseiterator" == Value.type "list")=false:=by decide
 have Q:(Value.type "list_reverseiterator" == Value.type "tuple")=false:=by decide
 simp only[h1,N,Q,Bool.or_false,Ct,if_false];refine Aa (wpAny_pyIter_revIter y ?_);refine Aa (Bp ?_);unfold Builtin.List.listLengthHint;refine Aa (wpAny_specialOf y.typeIs bU3 ?_);show wpAny _ A.in1 (specialOf (Value.ref r) (Str.ofString "__length_hint__") >>= _) _ _ _;refine Aa (wpAny_specialOf y.typeIs cZ1 ?_)
 wp_delta
 refine Aa (wpAny_isInstance (b:=true) y.typeIs (by rw[Av];kernel_rfl) ?_)
 refine Ab ?_;rw[Ac (by decide)]
 refine Ab ⟨plainId_quiet F.plain_extend_loop _,codeAny_extend_loopS (Walks.listRev (A:=A.in1) P r l J items).toS hn S Y res items.size 0 _ _ _ rfl (Cn _) ⟨Cn _,by simpa using y,hl⟩ D (ItemsOf.nil _) λs' acc' c' k m g=>?_⟩
 rw[Moved.eq_with k]
 refine hR s'.heap s'.toks acc' c' (λb ob B U e=>k.heap b ob (λhmem=>?_) e) m g
 rcases Aa1.mp hmem with e' | hmem
 .exact B e'
 .exact U (Ad8.mp hmem)
theorem aF9 {R:Result->Shared->Prop}(D:A.handled=none){r l:Addr}{items:AH}(M:s.heap.IsRevIter r l ((items.size:Int)-1))(B:s.heap.IsList l items)(N:l≠r)(S:Addr)(g:S≠r)(z:S≠l)(Y:s.heap.get? S=some {cls:=.type "list",data:=.seq #[]})
  (hR:∀h' tk acc' c',(∀b o,b≠S->b≠r->s.heap.get? b=some o->h'.get? b=some o)->h'.get? S=some {cls:=.type "list",dict:=none,data:=.seq acc' c',slots := #[]} ->
   ItemsOf (λi v=>items[items.size-1-i]? = some v) acc' items.size->R (.ok (.ret .none)) {s with heap:=h',toks:=tk}) (P:items.size<=sizeLine) :
  wpAny (model prog w) A.in1 (Builtin.«list.__init__» ⟨[.ref S,.ref r],[]⟩)
   (λfin s'=>match fin with | .done f=>R (.ok f) s' | .again c'=>c'.quiet=true/\codeAny (model prog w) A c' R s') (λe s'=>R (.error e) s') s:=by
 show wpAny _ _ (do let Q <- Builtin.List.listItems (.ref S);Builtin.List.listUpdate (.ref S) (λ_ => #[]);letGo Q.toList.reverse;Builtin.List.listExtendWith (.ref S) (.ref r) .none) _ _ s
 refine Aa ?_;unfold Builtin.List.listItems;refine Aa (wpAny_seqItems Y rfl (Ab ?_));show wpAny _ _ (updateSeq S (λ_ => #[]) >>= λ_=>letGo (#[]:AH).toList.reverse >>= λ_=>Builtin.List.listExtendWith (.ref S) (.ref r) .none) _ _ s
 refine Aa (wpAny_updateSeq Y rfl ?_);have U:=De (Obj.mapSeq (λ_=>(#[]:AH))) Y rfl
 have y:∀b o,b≠S->s.heap.get? b=some o->(s.heap.update S (Obj.mapSeq (λ_=>(#[]:AH)))).get? b=some o:=
  λb o m e=>(Dk _ _ (Ne.symm m)).trans e
 refine Aa (wpAny_letGo ?_);refine aR3 D (s:={s with heap:=s.heap.update S (Obj.mapSeq (λ_=>(#[]:AH)))}) (M.at λo e=>y r o g.symm e) (B.at λo e=>y l o z.symm e) N S g z .none _ U (λh' tk acc' c' F X k=>?_) P
 exact hR h' tk acc' c' (λb o m J e=>F b o m J (y b o m e)) X k
theorem aY1 {Q:Dy}{r l:Addr}{items:AH}(N:A.handled=none)(z:s.heap.IsRevIter r l ((items.size:Int)-1))(X:s.heap.IsList l items)(m:l≠r)(D:items.size<=sizeLine)
  (J:∀h' tk acc' c',(∀b o,b≠r->s.heap.get? b=some o->h'.get? b=some o) ->
   h'.get? s.heap.objs.size=some {cls:=.type "list",dict:=none,data:=.seq acc' c',slots := #[]}->ItemsOf (λi v=>items[items.size-1-i]? = some v) acc' items.size->Q (.ref s.heap.objs.size) {s with heap:=h',toks:=tk}) :
  wpAny (model prog w) A (call (.type "list") [.ref r]) Q E s:=by
 refine callType_codes (Q₁:=λg U=>g=.ref s.heap.objs.size/\U={s with heap:=s.heap.push {cls:=.type "list",data:=.seq #[]}}) F.called_list (F.typeCall_list_1 _) F.entry_list_init
  (code_list_new _ ⟨rfl,rfl⟩) λg U B=>?_
 obtain⟨rfl,rfl⟩:=B;have Y:(s.heap.push {cls:=.type "list",data:=.seq #[]}).get? s.heap.objs.size=some {cls:=.type "list",data:=.seq #[]}:=Ac3 _ rfl;have nr:s.heap.objs.size≠r:=by obtain⟨o,e,_⟩:=z;exact(Ab9 (Ab3 e)).symm
 have P:s.heap.objs.size≠l:=by obtain⟨o,e,_⟩:=X;exact(Ab9 (Ab3 e)).symm
 refine⟨⟨_,Y,rfl⟩,F.args_list_init_2 _ _,aF9 (A:=A.in1) N (s:={s with heap:=s.heap.push {cls:=.type "list",data:=.seq #[]}}) (z.at λo e=>Aa6 _ e) (X.at λo e=>Aa6 _ e) m _ nr P Y (λh' tk acc' c' R k y=>?_) D⟩
 exact⟨rfl,J h' tk acc' c' (λb o M e=>R b o (Ab9 (Ab3 e)) M (Aa6 _ e)) k y⟩
end
end PySem
namespace LV
open PySem PySem.Spec PyProof.Rows L2
section
variable {X:Cx}
def bZ6 (K:Frag)(te:TE):TE:=λσ H Q=>te σ H λx H1=>∃p ys,x=.ref p/\SqL K H1 p ys/\∀l,H1 l=none->Q (.ref l) (upd H1 l (.lst ys.reverse))
theorem bM9 (K:Frag){e:Expr}{te:TE}{p1 p2 pos1 pos2:Pos}(hc:X.calm=true)(D:Gl X "list")(hm1:X.mg "list" = none)(F:Gl X "reversed")(hm2:X.mg "reversed" = none)(he:PE X e te)(hK:X.K=K:=by rfl)
  (Y:starEach [e] X.env=[(false,eval e X.env)]:=by rfl) (U:starEach [Expr.Call (.Name "reversed" p2) [e] [] pos2] X.env=[(false,eval (Expr.Call (.Name "reversed" p2) [e] [] pos2) X.env)]:=by rfl) :
  PE X (.Call (.Name "list" p1) [.Call (.Name "reversed" p2) [e] [] pos2] [] pos1) (bZ6 K te):=by
 subst hK;refine⟨?_⟩;intro N s σ H Q I h;refine wpAny_Call_Name_kw (R9 I D hm1 boot_list ?_);refine An ?_ (by rw[U];rfl) rfl
 rw[U];show wpAny _ _ (spliced [(false,eval (Expr.Call (.Name "reversed" p2) [e] [] pos2) X.env)]) _ _ s;refine Calls.spliced_cons ?_;refine wpAny_Call_Name_kw (R9 I F hm2 boot_reversed ?_);refine An ?_ (by rw[Y];rfl) rfl
 rw[Y];show wpAny _ _ (spliced [(false,eval e X.env)]) _ _ s;refine Calls.spliced_cons (thn (he N s σ H _ I h) λu g ⟨x,H1,m,r1,p,ys,M,hq,q⟩=>?_)
 subst M;cases r1;refine Calls.spliced_nil ?_;obtain⟨its,rv,pl,k⟩:=m.list hq;have z:=rv.length;have P:p<g.heap.objs.size:=by obtain⟨o,n,e,_⟩:=pl;exact Ab3 e
 refine call_reversed_list pl.isList ?_;refine Calls.spliced_nil ?_;have I2:Inv X N σ H1 {g with heap:=g.heap.push (revObj p ((its.toArray.size:Int)-1))}:=m.kept (t':=g.toks) λb o e=>Aa6 _ e
 refine aY1 (m.ok.hd hc) (r:=g.heap.objs.size) (items:=its.toArray) ⟨_,Ac3 _ rfl,rfl,rfl⟩ (pl.isList.at λo e=>Aa6 _ e) (Ab9 P) (by rw[Ab2];lia) λR tk y c' kp el it=>?_
 have rr:Vals ys.reverse y.toList:=by
  obtain⟨k,B⟩:=it;have k:y.size=its.length:=by simpa using k
  refine aU4 (by simp[k,z]) λj v u M e2=>?_
  have hj:j<its.length:=by
   have:=(Ab0.mp e2).1
   simpa[k]using this
  have hu:=B j u (by simpa using e2)
  rw[List.getElem?_reverse (by lia),z]at M
  obtain⟨u',h1,h2⟩:=rv.get M;simp only[Ab2]at hu;have J:its[its.length-1-j]? = some u:=by simpa using hu
  rw[h1]at J;cases J;exact h2
 have kp':∀b o,g.heap.get? b=some o->R.get? b=some o:=λb o e=>kp b o (Ab9 (Ab3 e)) (Aa6 _ e)
 have I3:Inv X N σ (upd H1 (g.heap.push (revObj p ((its.toArray.size:Int)-1))).objs.size (.lst ys.reverse)) {g with heap:=R,toks:=tk}:=
  m.laid kp' (by rw[Ca];exact Nat.le_succ _) (show ObjOk X.prog X.w _ R _ (.lst _) from⟨by rw[Ae1];exact k,y.toList,c',rr,by simpa using el⟩)
 exact⟨.ref _,_,I3,rfl,q _ (m.hok.fresh (by rw[Ca];exact Nat.le_succ _))⟩
end
end LV
namespace LS
open PySem PySem.W PyProof.Rows
section
variable {lt:Nat->Nat->Bool}
abbrev le (lt:Nat->Nat->Bool)(a b:Nat):Prop:=lt b a=false
end
end LS
namespace LV
open PySem PySem.Spec PyProof.Rows L2 PySem.W Att
section
variable {P:Program}{w:World}{A:Around}{s:Shared}{E:Dy}
theorem aT2 {a:Addr}{vs:AF}{n:Nat}{P':PySem.Fin->Shared->Prop}(ho:s.heap.get? a=some (seqObj "list" vs.toArray n))(m:vs.length<2)
  (h:P' (.done (.ret .none)) {s with heap:=sortedHeap s.heap a vs vs.toArray}):wpAny (model P w) A (Builtin.«list.sort» ⟨[.ref a],[]⟩) P' E s:=by
 rw[list_sort_plain];have Y:a<s.heap.objs.size:=Ab3 ho;refine Aa (listItems_at ho rfl ?_);refine Aa (listUpdate_at ho rfl ?_);obtain⟨g,y⟩:∃g,(s.heap.update a (Obj.mapSeq λ_ => #[])).get? a=some (seqObj "list" #[] g):=⟨_,get?_update_seq ho (λ_ => #[])⟩
 refine Aa (seqEpoch_at y rfl ?_);refine Aa (wpAny_newTuple ?_);refine Aa (wpAny_newList ?_);refine Bp ?_;have z:(((s.heap.update a (Obj.mapSeq λ_ => #[])).push (seqObj "tuple" vs.toArray 0)).push (seqObj "list" #[] 0)).get? a=some (seqObj "list" #[] g):=by
  rw[Heap.get?_push_ne _ _ _ (by rw[size_push',Heap.size_update];exact Ab9 (Bw Y)),Heap.get?_push_ne _ _ _ (by rw[Heap.size_update];exact Ab9 Y)]
  exact y
 show wpAny (model P w) A _ P' E {s with heap:=((s.heap.update a (Obj.mapSeq λ_ => #[])).push (seqObj "tuple" vs.toArray 0)).push (seqObj "list" #[] 0)}
 dsimp only
 have r:vs.toArray.size<2:=by simpa using m
 rw[Ae r,Ae r];refine Aa (Ab ?_);rw[StateT.run_pure];refine Aa (Ab ?_);dsimp only;refine Aa (seqEpoch_at z rfl ?_);refine Aa (listUpdate_at z rfl ?_ (hsz2:=by rw[Array.size_map];show(pairsOf vs).size<=_;rw[pairsOf_size,Cd];lia))
 simp only[bne_self_eq_false,Ct,if_false];refine Ab ?_;have e:(arrOf (SortSt.mk' general' (vs.toArray.zip vs.toArray) #[] 7 none)).map (·.2)=vs.toArray:=by
  show(vs.toArray.zip vs.toArray).map (·.2)=vs.toArray
  refine Array.ext (by simp) λi h1 m=>by simp
 have k:=h
 unfold sortedHeap at k;rw[e];exact k
theorem bG1 {l:Addr}{vs:AF}{Q:Dy}(r:s.heap.IsList l vs.toArray)(z:vs.length<2)
  (h:Q (.ref (s.heap.objs.size+1)) {s with heap:=sortedAll s.heap vs vs.toArray}):wpAny (model P w) A (call (.builtin "sorted") [.ref l]) Q E s:=by
 refine Calls.call_function_entry kind_sorted plain_sorted entry_sorted (args_sorted1 _) ?_;unfold Builtin.«sorted»;refine Aa (m:=checkCount "sorted" 1 1 _) (Ab ?_);refine Aa (collect_list r ?_ (by rw[Cd];lia))
 refine Aa (wpAny_newList ?_ (by rw[Cd];lia))
 have y:((s.heap.push (seqObj "list" #[] 0)).update s.heap.objs.size (Obj.mapSeq (· ++ vs.toArray))).objs.size=s.heap.objs.size+1:=by
  rw[Heap.size_update,size_push']
 have e:(((s.heap.push (seqObj "list" #[] 0)).update s.heap.objs.size (Obj.mapSeq (· ++ vs.toArray))).push (seqObj "list" vs.toArray 0)).get? (s.heap.objs.size+1)=some (seqObj "list" vs.toArray 0):=by
  rw[<- y];exact Ac3 _ rfl
 show wpAny _ _ _ _ _ {s with heap:=((s.heap.push (seqObj "list" #[] 0)).update s.heap.objs.size (Obj.mapSeq (· ++ vs.toArray))).push (seqObj "list" vs.toArray 0)}
 rw[y];refine Aa (Bp (Cj slot_list_sort ⟨_,e,rfl⟩ entry_list_sort (aT2 e z ⟨_,rfl,?_⟩) (args_list_sort _)));exact Ab ⟨_,rfl,h⟩
end
section
variable {X:Cx}{aA:Dz}{σ:L2.St}{H:Hp}{s:Shared}
theorem bD2 {vs:List V}{us:AF}(r:Vals vs us):∀{q:AB},(∀i∈q,i<vs.length)->Vals (q.map λi=>vs.getD i .non) (q.map λi=>us.getD i .none)
 | [],_=>.nil
 | i::q,h=>by
  have hi:=h i (by simp)
  obtain⟨u,h1,z⟩:=r.get (i:=i) (x:=vs[i]) (Aa2 hi);refine .cons ?_ (bD2 r λj g=>h j (by simp[g]))
  have e:vs.getD i .non=vs[i]:=by simp[List.getD,hi]
  have y:us.getD i .none=u:=by simp[List.getD,h1]
  show RelV (vs.getD i .non) (us.getD i .none)
  rw[e,y];exact z
end
end LV
namespace LV
open PySem L2
section
variable {K:Frag}{ρ ρ' ρ1:List Sl}{m m':Bool}{t ta tb tc:TE}{d d':PyData}{ds es:AD}
abbrev lI (l:AC):PyData:=.list (l.map .int)
abbrev tI (l:AC):PyData:=.tuple (l.map .int)
theorem bF0:∀l:AC,K9 (l.map .int)=true
 | []=>rfl
 | _::l=>by simp[K9,imm,bF0 l]
theorem aE3 {α:Type}{f:α->PyData}(h:∀a,imm (f a)=true):∀l:List α,K9 (l.map f)=true
 | []=>rfl
 | a::l=>by simp[K9,h a,aE3 h l]
theorem bK5:∀{l:AD},(∀d∈l,imm d=true)->K9 l=true
 | [],_=>rfl
 | a::l,h=>by simp[K9,h a (by simp),bK5 (l:=l) λd hd=>h d (by simp[hd])]
theorem aT6 (i:Int):Fit (.int i):=⟨rfl,by simp[PyData.depth]⟩
def FitN (n:Nat)(d:PyData):Prop:=d.canLay0=true/\d.depth<=n
theorem bS2 (n:Nat)(i:Int):FitN n (.int i):=⟨rfl,by simp[PyData.depth]⟩
theorem aW1 {n:Nat}:∀{l:AD},(∀d∈l,FitN n d)->PyData.canLayAll0 l=true/\PyData.depthAll l<=n
 | [],_=>⟨rfl,by simp[PyData.depthAll]⟩
 | a::l,h=>by
  obtain⟨h1,z⟩:=h a (by simp)
  obtain⟨e,r⟩:=aW1 (l:=l) λd y=>h d (by simp[y])
  exact⟨by simp[PyData.canLayAll0,h1,e],by simp only[PyData.depthAll];lia⟩
theorem aM4 {n:Nat}{l:AD}(h:∀d∈l,FitN n d):FitN (n+1) (.tuple l):=by
 obtain⟨a,b⟩:=aW1 h;exact⟨by simpa[PyData.canLay0]using a,by simp only[PyData.depth];lia⟩
theorem bQ2 {n:Nat}{l:AD}(h:∀d∈l,FitN n d):FitN (n+1) (.list l):=by
 obtain⟨a,b⟩:=aW1 h;exact⟨by simpa[PyData.canLay0]using a,by simp only[PyData.depth];lia⟩
theorem FitN.fit {n:Nat}(h:FitN n d)(e:n<=32:=by decide):Fit d:=⟨h.1,Bf h.2 e⟩
theorem dA9 (l:AC):∀d∈l.map PyData.int,FitN 0 d:=λd e=>by
 obtain⟨i,_,rfl⟩:=Aa8.mp e;exact bS2 0 i
theorem cY1 (l:AC):FitN 1 (tI l):=aM4 (dA9 l)
theorem eD5 (z:E K false ta ρ d)(r:E K false tb ρ d')(h1:Fit d)(e:Fit d'):E K m (tOp (eI5 K true) ta tb) ρ (.bool (!PyData.eqv d d')):=
 aP6 false false z r λS H x y Q _ g k q=>⟨d,d',g,k,h1,e,q _ H (L2.Same.rf _) (.bl _)⟩
theorem cC0 (r:E K false ta ρ d)(g:E K false tb ρ d')(k:sq d'=some ds)(h1:Fit d)(e:Fit d'):E K m (tOp (dD6 K false) ta tb) ρ (.bool (ds.any λz=>PyData.eqv z d)):=
 aP6 false false r g λS H x y Q _ s Y q=>⟨d,d',ds,s,Y,k,h1,e,q _ H (L2.Same.rf _) (.bl _)⟩
theorem aY6 (r:E K false ta ρ d)(g:E K false tb ρ d')(k:sq d'=some ds)(h1:Fit d)(e:Fit d'):E K m (tOp (dD6 K true) ta tb) ρ (.bool (!ds.any λz=>PyData.eqv z d)):=
 aP6 false false r g λS H x y Q _ s Y q=>⟨d,d',ds,s,Y,k,h1,e,q _ H (L2.Same.rf _) (.bl _)⟩
theorem aJ8 {α:Type}[DecidableEq α]{f:α->PyData}(h:∀a b,PyData.eqv (f a) (f b)=decide (a=b)):∀l l':List α,PyData.eqvAll (l.map f) (l'.map f)=decide (l=l')
 | [],[]=>by simp[PyData.eqvAll]
 | [],_::_=>by simp[PyData.eqvAll]
 | _::_,[]=>by simp[PyData.eqvAll]
 | a::l,b::l'=>by
  simp only[Ac7,PyData.eqvAll,h,aJ8 h l l',Ce];by_cases e:a=b <;> simp[e]
theorem cD1 (a b:Int):PyData.eqv (.int a) (.int b)=decide (a=b):=by
 simp only[PyData.eqv];by_cases h:a=b <;> simp[h]
theorem cB7 {H:Hp}{p:V}{l:AC}(r:Rep K H p (lI l)):∃a,p=.ref a/\SqL K H a (l.map V.int):=by
 cases r with
 | lst s r=>rw[<- r.ints];exact⟨_,rfl,s⟩
theorem eB1 {t:TA}{l:AC}{M:Int}(g:A K false t ρ [lI l])(e:M∈l/\∀a∈l,M<=a):E K m (tCB (λxs H Q=>∃(p:Addr) (l:AC),xs=[.ref p]/\SqL K H p (l.map V.int)/\l≠[]/\∀M,M∈l->(∀a∈l,M<=a)->Q (.int M) H) t) ρ (.int M):=cR4 g λH vs Q r q=>by
 cases r with
 | cons a b=>
  cases b
  obtain⟨p,rfl,s⟩:=cB7 a;refine⟨p,l,rfl,s,List.ne_nil_of_mem e.1,λy h1 z=>?_⟩
  have:y=M:=Int.le_antisymm (z M e.1) (e.2 y h1)
  rw[this];exact q _ λ_=>.int _
abbrev lB (l:List Bool):PyData:=.list (l.map .bool)
theorem cN9 {l:AC}{k:Int}(Y:E K false ta ρ (lI l))(X:E K false tb ρ (.int k))(U:k∈l) :
  E K m (tBM K "list" (λx xs H Q=>∃(p:Addr) (l:AC) (k:Int),x=.ref p/\xs=[.int k]/\SqL K H p (l.map V.int)/\k∈l/\Q (.int (l.idxOf k)) H) ta (K7 tb S8)) ρ (.int (l.idxOf k)):=E.bor (E.imm (m:=false) λS B σ H o I Q q=>Y S B σ H o I _ λv z e r=>by
 obtain⟨p,rfl,s⟩:=cB7 r;refine⟨.inl ⟨rfl,_,s⟩,?_⟩;refine X S B σ z o (I.grow e) _ λu g y J=>?_
 cases J
 exact⟨p,l,k,rfl,rfl,G6 y s,U,q _ g (L2.Same.tr e y) (.int _)⟩)
theorem aE1 {S:Addr->Prop}{H1:Hp}{p:Addr}{xs:List V}(y:∀b,S b->∃u:HM,H1 b=some u.ho)(hp:H1 p=none)(r:Reps K H1 xs ds)(hi:K9 ds=true):Reps K (hid (λb=>S b\/b=p) (upd H1 p (.lst xs))) xs ds:=
 aZ1 (λa s q=>aI4 (λb z=>by
  rcases z with z | z
  .obtain⟨k,e⟩:=y b z;exact⟨k,by rw[A8 (λg=>by rw[g,hp]at e;cases e)];exact e⟩
  .exact⟨.l xs,by rw[z];exact B3⟩) (a7 (D8 hp) q)) ds hi r
theorem dM2 {r:List V->Hp->VK->Prop}{t:TA}(z:A K false t ρ ds)(hi:K9 es=true)(g:∀(H:Hp) (vs:List V) (Q:VK),Reps K H vs ds->(∀p xs,H p=none->Reps K H xs es->Q (.ref p) (upd H p (.lst xs)))->r vs H Q):EF K (tCB r t) ρ es:=λS B σ H o I Q q=>
 z S B σ H o I _ λvs y e rs=>g y vs Q rs λp xs hp k=>q p xs _ (L2.Same.tr e (D8 hp)) (T1 e hp) B3 (aE1 (I.grow e).lists hp k hi)
theorem dC8 {t:TA}(z:A K false t ρ [d])(y:sq d=some ds)(hi:K9 ds=true):EF K (tCB (λxs H Q=>∃p ys,xs=[.ref p]/\(SqL K H p ys\/SqT K H p ys)/\∀l,H l=none->Q (.ref l) (upd H l (.lst ys))) t) ρ ds:=dM2 z hi λH vs Q r q=>by
 cases r with
 | cons a b=>
  cases b
  cases a with
  | lst s r=>cases y;exact⟨_,_,rfl,.inl s,λl e=>q l _ e r⟩
  | tup s r=>cases y;exact⟨_,_,rfl,.inr s,λl e=>q l _ e r⟩
  | _=>cases y
theorem e7 {t:TA}(y:A K false t ρ [.list ds])(hi:K9 ds=true):E K m (tCB (λxs H Q=>∃p ys,xs=[.ref p]/\((SqL K H p ys/\∀l,H l=none->Q (.ref l) (upd H l (.tup ys)))\/(SqT K H p ys/\Q (.ref p) H))) t) ρ (.tuple ds):=E.bor (E.imm (m:=false) (λS B σ H o I Q q=>y S B σ H o I _ λvs g z r=>by
 cases r with
 | cons a b=>
  cases b
  cases a with
  | lst s r=>exact⟨_,_,rfl,.inl ⟨s,λl e=>q _ _ (L2.Same.tr z (D8 e)) (.tup (SqT.of B3) (r.mono (D8 e)))⟩⟩) (by simp[imm,hi]))
theorem dV6 {t:TA}{i j:Int}(X:A K false t ρ [.int i,.int j])(U : -(2^62)<=i/\i<2^62 /\ -(2^62)<=j/\j<2^62/\j-i<=1000000) :
  EF K (tCB (λxs H Q=>∃(r:Addr) (i j:Int),xs=[.ref r]/\H r=some (.rng i j)/\(-(2^62)<=i/\i<2^62 /\ -(2^62)<=j/\j<2^62/\j-i<=1000000)/\∀l,H l=none->Q (.ref l) (upd H l (.lst (a9 i (j-i).toNat)))) (K7 (dK8 t) S8)) ρ (P6 i (j-i).toNat):=λS B σ H o I Q q=>
 X S B σ H o I _ λvs J z r=>by
  cases r with
  | cons a b=>
   cases a
   cases b with
   | cons a b=>
    cases a;cases b
    refine⟨i,j,rfl,λp hp=>⟨p,i,j,rfl,B3,U,λl y=>?_⟩⟩
    have e:=D8 (o:=.rng i j) hp
    have Y:=D8 (o:=.lst (a9 i (j-i).toNat)) y
    refine q l _ _ (L2.Same.tr z (L2.Same.tr e Y)) (T1 (L2.Same.tr z e) y) B3 ?_;have g:a9 i (j-i).toNat=((List.range (j-i).toNat).map λ(k:Nat)=>i+(k:Int)).map V.int:=by simp[a9]
    have s:P6 i (j-i).toNat=((List.range (j-i).toNat).map λ(k:Nat)=>i+(k:Int)).map PyData.int:=by simp[P6]
    rw[g,s];exact r9 _
theorem dT6 (k:E K false ta ρ (.list ds))(hi:K9 ds=true):EF K (bZ6 K ta) ρ ds.reverse:=λS B σ H o I Q q=>
 k S B σ H o I _ λv X g r=>by
  cases r with
  | lst s r=>
   refine⟨_,_,rfl,s,λl y=>q l _ _ (L2.Same.tr g (D8 y)) (T1 g y) B3 (aE1 (I.grow g).lists y r.reverse ?_)⟩
   refine bK5 λd e=>?_
   have:∀{l:AD},K9 l=true->∀d∈l,imm d=true:=λ{l}=>by
    induction l with
    | nil=>simp
    | cons a l Y=>intro h d e;simp[K9]at h;rcases Aa1.mp e with rfl | z;exact h.1;exact Y h.2 d z
   exact this hi d (Bv.mp e)
end
def OT.kids:OT->List OT
 | .leaf _ | .dic _=>[]
 | .tup ts=>ts
 | .lst ts=>ts
def OT.at:AB->OT->Option OT
 | [],t=>some t
 | k::π,t=>(t.kids[k]?).bind (OT.at π)
def OT.put (t:OT)(π:AB)(u:OT):OT:=match π with
 | []=>u
 | k::π=>match t with
  | .lst ts=>.lst (ts.modify k λt=>OT.put t π u)
  | .tup ts=>.tup (ts.modify k λt=>OT.put t π u)
  | .leaf d=>.leaf d
  | .dic d=>.dic d
theorem OT.put_nil {t u:OT}:t.put [] u=u:=by rw[OT.put]
theorem OT.put_lst {ts:List OT}{k:Nat}{π:AB}{u:OT}:(OT.lst ts).put (k::π) u=.lst (ts.modify k λt=>OT.put t π u):=by rw[OT.put]
theorem OT.put_tup {ts:List OT}{k:Nat}{π:AB}{u:OT}:(OT.tup ts).put (k::π) u=.tup (ts.modify k λt=>OT.put t π u):=by rw[OT.put]
section
variable {K:Frag}{Z Z' H H':Hp}
theorem R3 {α:Type}{f:α->α}:∀{l:List α} {k:Nat} {a:α},l[k]? = some a->l.modify k f=l.set k (f a)
 | [],k,a,h=>by simp at h
 | b::l,0,a,h=>by simp at h;subst h;rfl
 | b::l,k+1,a,h=>by
  have:=R3 (f:=f) (l:=l) (k:=k) (a:=a) (by simpa using h)
  simpa using this
theorem bY4:∀{ts:List OT} {xs:List V} {L:AK} {k:Nat} {t:OT},Dps K Z H xs ts L->ts[k]? = some t->∃v L1 L2 L3,xs[k]? = some v/\Dp K Z H v t L2/\L=L1++L2++L3 /\
  ∀(Z' H':Hp) (t':OT) (L2':AK),Same Z Z'->(∀a xs,Rd H a (.tup xs)->Rd H' a (.tup xs))->(∀b,b∈L1\/b∈L3->H' b=H b)->Dp K Z' H' v t' L2'->Dps K Z' H' xs (ts.set k t') (L1++L2'++L3)
 | [],_,_,_,_,r,h=>by simp at h
 | t::ts,_,_,0,_,r,h=>by
  simp at h;subst h
  cases r with
  | @cons v _ vs _ La Lb a b=>
   refine⟨v,[],La,Lb,rfl,a,rfl,λZ' H' t' L2' hz ht hl r=>?_⟩
   simpa using Dps.cons r (p9 hz ht ts (λb hb=>hl b (.inr hb)) b)
 | t::ts,_,_,k+1,t1,r,h=>by
  cases r with
  | @cons v _ vs _ La Lb a b=>
   obtain⟨w,L1,L2,L3,h1,h2,h3,h4⟩:=bY4 (k:=k) (t:=t1) b (by simpa using h)
   refine⟨w,La++L1,L2,L3,by simpa using h1,h2,by rw[h3];simp,λZ' H' t' L2' hz ht hl r=>?_⟩
   have:=Dps.cons (aF5 hz ht t (λb hb=>hl b (.inl (by simp[hb]))) a) (h4 Z' H' t' L2' hz ht (λb hb=>hl b (by rcases hb with hb | hb <;> simp[hb])) r)
   simpa using this
theorem dG8 {t:OT}{v:V}{L:AK}{k:Nat}{t1:OT}(r:Dp K Z H v t L)(h:t.kids[k]? = some t1):(∃a xs ts M,v=.ref a/\t=.tup ts/\SqT K H a xs/\Dps K Z H xs ts L/\ts[k]? = some t1/\M=L)\/∃a xs ts M,v=.ref a/\t=.lst ts/\H a=some (.lst xs)/\Dps K Z H xs ts M/\ts[k]? = some t1/\L=a::M:=by
 cases r with
 | leaf r=>simp[OT.kids]at h
 | dic _ _ _ _=>simp[OT.kids]at h
 | tup s r=>exact .inl ⟨_,_,_,_,rfl,rfl,s,r,h,rfl⟩
 | lst s r=>exact .inr ⟨_,_,_,_,rfl,rfl,s,r,h,rfl⟩
def Foc (K:Frag)(Z H:Hp)(v0:V)(t0:OT)(L0:AK)(π:AB)(v:V)(t:OT):Prop:=
 ∃L A C,Dp K Z H v t L/\L0=A++L++C/\∀(Z' H':Hp) (t':OT) (L':AK),Same Z Z'->(∀a xs,Rd H a (.tup xs)->Rd H' a (.tup xs))->(∀b,b∈A\/b∈C->H' b=H b)->Dp K Z' H' v t' L'->Dp K Z' H' v0 (t0.put π t') (A++L'++C)
theorem Foc.root {v0:V}{t0:OT}{L0:AK}(r:Dp K Z H v0 t0 L0):Foc K Z H v0 t0 L0 [] v0 t0:=
 ⟨L0,[],[],r,by simp,λZ' H' y L' _ _ _ e=>by rw[OT.put_nil];simpa using e⟩
theorem Foc.mono {v0 v:V}{t0 t:OT}{L0:AK}{π:AB}(f:Foc K Z H v0 t0 L0 π v t)(m:Same Z Z')(s:∀a xs,Rd H a (.tup xs)->Rd H' a (.tup xs))(k:∀b∈L0,H' b=H b):Foc K Z' H' v0 t0 L0 π v t:=by
 obtain⟨L,A,C,h1,e,U⟩:=f;refine⟨L,A,C,aF5 m s t (λb hb=>k b (by rw[e];simp[hb])) h1,e,λX Y M L' g r y J=>U X Y M L' (L2.Same.tr m g) (λa xs z=>r a xs (s a xs z)) (λb hb=>?_) J⟩
 rw[y b hb];exact k b (by rw[e];rcases hb with hb | hb <;> simp[hb])
theorem aL8 {u t1:OT}{k:Nat}:∀{π:AB} {t0 t:OT},t0.at π=some t->t0.put π (t.put [k] u)=t0.put (π++[k]) u
 | [],t0,t,h=>by cases h;rw[OT.put_nil];rfl
 | j::π,t0,t,h=>by
  unfold OT.at at h;cases e:t0.kids[j]? with
  | none=>rw[e]at h;cases h
  | some t1=>
   rw[e]at h;have h:t1.at π=some t:=h;cases t0 with
   | leaf d=>simp[OT.kids]at e
   | dic d=>simp[OT.kids]at e
   | lst ts=>
    have e:ts[j]? = some t1:=e
    rw[Ab6,OT.put_lst,OT.put_lst,R3 e,R3 e,aL8 (t1:=t1) h]
   | tup ts=>
    have e:ts[j]? = some t1:=e
    rw[Ab6,OT.put_tup,OT.put_tup,R3 e,R3 e,aL8 (t1:=t1) h]
theorem aL7 {k:Nat}:∀{π:AB} {t0 t:OT},t0.at π=some t->t0.at (π++[k])=t.kids[k]?
 | [],t0,t,h=>by
  cases h
  show(t0.kids[k]?).bind (OT.at [])=_
  cases t0.kids[k]? <;> rfl
 | j::π,t0,t,h=>by
  unfold OT.at at h;rw[Ab6];show(t0.kids[j]?).bind (OT.at (π++[k]))=_;cases e:t0.kids[j]? with
  | none=>rw[e]at h;cases h
  | some y=>
   rw[e]at h;exact aL7 (π := π) (t0:=y) h
theorem Foc.down {v0 v:V}{t0 t t1:OT}{L0:AK}{π:AB}{k:Nat}(f:Foc K Z H v0 t0 L0 π v t)(P:t0.at π=some t)(h:t.kids[k]? = some t1) :
  ∃a xs u,v=.ref a/\(SqL K H a xs\/SqT K H a xs)/\xs[k]? = some u/\Foc K Z H v0 t0 L0 (π++[k]) u t1:=by
 obtain⟨L,A,C,h1,F,B⟩:=f;rcases dG8 h1 h with⟨a,xs,D,M,rfl,rfl,s,R,e,rfl⟩ | ⟨a,xs,D,M,rfl,rfl,s,R,e,rfl⟩
 .obtain⟨u,g,L2,m,Y,X,U,J⟩:=bY4 R e;refine⟨a,xs,u,rfl,.inr s,Y,L2,A++g,m++C,X,by rw[F,U];simp,λZ' H' Q L' r z y N=>?_⟩
  have:=B Z' H' _ _ r z (λb hb=>y b (by rcases hb with hb | hb <;> simp[hb])) (Dp.tup (s.imp (z _ _) id) (J Z' H' Q L' r z (λb hb=>y b (by rcases hb with hb | hb <;> simp[hb])) N))
  rw[<- aL8 (t1:=t1) P,OT.put_tup,R3 e,OT.put_nil];simpa using this
 .obtain⟨u,g,L2,m,Y,X,U,J⟩:=bY4 R e;refine⟨a,xs,u,rfl,.inl (SqL.of s),Y,L2,A++a::g,m++C,X,by rw[F,U];simp,λZ' H' Q L' r z y N=>?_⟩
  have:=B Z' H' _ _ r z (λb hb=>y b (by rcases hb with hb | hb <;> simp[hb])) (Dp.lst (by rw[y a (by simp)];exact s) (J Z' H' Q L' r z (λb hb=>y b (by rcases hb with hb | hb <;> simp[hb])) N))
  rw[<- aL8 (t1:=t1) P,OT.put_lst,R3 e,OT.put_nil];simpa using this
end
section
variable {K:Frag}{ρ ρ' ρ1:List Sl}{m m':Bool}{t ta tb tc:TE}{d d':PyData}{ds es:AD}{u u0 u1:OT}{us:List OT}
def EFT (K:Frag)(t:TE)(ρ:List Sl)(u:OT):Prop:=
 ∀(S:Addr->Prop) (B:Hp) (σ:St) (H:Hp) (o:Nat->AK),Env K S B H σ ρ o->∀Q:VK,
  (∀v L H',Same H H'->(∀b∈L,H b=none)->L.Nodup->Dp K (hid (λb=>F0 ρ o S b\/b∈L) H') H' v u L->Q v H')->t σ H Q
def AFT (K:Frag)(t:TA)(ρ:List Sl)(us:List OT):Prop:=
 ∀(S:Addr->Prop) (B:Hp) (σ:St) (H:Hp) (o:Nat->AK),Env K S B H σ ρ o->∀Q:List V->Hp->Prop,
  (∀vs L H',Same H H'->(∀b∈L,H b=none)->L.Nodup->Dps K (hid (λb=>F0 ρ o S b\/b∈L) H') H' vs us L->Q vs H')->t σ H Q
theorem bL1 {S:Addr->Prop}{H:Hp}:Same (hid S H) (hid (λb=>S b\/b∈([]:AK)) H):=F6 (L2.Same.rf _) λb z _=>z.elim id λz=>nomatch z
theorem bE9 (h:E K true t ρ d):EFT K t ρ (.leaf d):=λS B σ H o I Q q=>h S B σ H o I _ λv e s r=>
 q v [] e s (λ_ z=>nomatch z) .nil (.leaf (r.mono bL1))
theorem aU6 {Z H:Hp}:∀{us:List OT} {vs:List V} {L:AK},Dps K Z H vs us L->vs.length=us.length
 | [],_,_,r=>by cases r;rfl
 | u::us,_,_,r=>by cases r with | cons a b=>simp[aU6 b]
theorem L5:AFT K S8 ρ []:=λS B σ H o I Q q=>q [] [] H (L2.Same.rf _) (λ_ z=>nomatch z) .nil .nil
theorem Dps.mono {Z Z' H H':Hp}{vs:List V}{L:AK}(r:Dps K Z H vs us L)(z:Same Z Z')(h:Same H H'):Dps K Z' H' vs us L:=
 p9 z (λ_ _=>a7 h) us (λb y=>by obtain⟨xs,e⟩:=p7 us r b y;rw[e];exact h _ _ e) r
theorem Env.hide {S:Addr->Prop}{B H H1:Hp}{σ:St}{o:Nat->AK}{L:AK}(I:Env K S B H σ ρ o)(s:Same H H1)(n:∀b∈L,H b=none)(l:∀b∈L,∃u:HM,H1 b=some u.ho) :
  Env K (λb=>S b\/b∈L) (hid (cQ7 ρ o) H1) H1 σ ρ o:=by
 obtain⟨J,sb⟩:=(I.grow s).rebase;have g:Same (hid (F0 ρ o S) H) (hid (F0 ρ o λb=>S b\/b∈L) H1):=F6 s λb z k=>by
  rcases z with (z | z) | z
  .exact .inl z
  .exact absurd (n b z) k
  .exact .inr z
 refine⟨I.len,i9,λb z=>?_,J.new,I.inj,λi ds h=>?_,λi d h=>?_,λi d h=>?_,λi t h=>?_⟩
 .rcases z with z | z
  .exact J.sl b z
  .obtain⟨xs,e⟩:=l b z;refine⟨xs,hid_some.mpr ⟨λ⟨i,x,h,U,X⟩=>?_,e⟩⟩
   obtain⟨N,e'⟩:=I.lists b (.inr ⟨i,x,h,U,X⟩);rw[n b z]at e';cases e'
 .obtain⟨p,h1,y,xs,r,Y⟩:=I.own i ds h;exact⟨p,h1,y,xs,s _ _ r,Y.mono g⟩
 .obtain⟨v,h1,y⟩:=I.val i d h;exact⟨v,h1,y.mono g⟩
 .obtain⟨v,h1,y⟩:=I.bor i d h;exact⟨v,h1,y.mono s⟩
 .obtain⟨M,v,h1,y⟩:=I.tr i t h;exact⟨M,v,h1,y.mono g s⟩
theorem dF0 {o:Nat->AK}{S:Addr->Prop}{L:AK}{b:Addr}:F0 ρ o (λb=>S b\/b∈L) b↔F0 ρ o S b\/b∈L:=by
 constructor
 .rintro ((z | z) | z)
  .exact .inl (.inl z)
  .exact .inr z
  .exact .inl (.inr z)
 .rintro ((z | z) | z)
  .exact .inl (.inl z)
  .exact .inr z
  .exact .inl (.inr z)
theorem J5 {tr:TA}(y:EFT K ta ρ u)(F:AFT K tr ρ us):AFT K (K7 ta tr) ρ (u::us):=λS B σ H o I Q q=>
 y S B σ H o I _ λx M U s X R g=>F _ _ σ U o (I.hide s X (aE9 u g)) _ λxs N J Y r D r2=>by
  have P:=aE9 u g
  refine q (x::xs) (M++N) J (L2.Same.tr s Y) (λb hb=>?_) ?_ (.cons (g.mono ?_ Y) (r2.mono ?_ (L2.Same.rf _)))
  .rcases Aa0.mp hb with hb | hb
   .exact X b hb
   .exact T1 s (r b hb)
  .refine Aa4.mpr ⟨R,D,λa y b hb e=>?_⟩
   subst e;obtain⟨xs,e⟩:=P a y;rw[r a hb]at e;cases e
  .refine F6 Y λb z k=>?_
   rcases z with z | z
   .exact .inl z
   .rcases Aa0.mp z with z | z
    .exact .inr z
    .exact absurd (r b z) k
  .refine F6 (L2.Same.rf _) λb z _=>?_
   rw[dF0];rcases z with z | z
   .exact .inl (.inl z)
   .rcases Aa0.mp z with z | z
    .exact .inl (.inr z)
    .exact .inr z
theorem aV1 {t:TA}(h:AFT K t ρ us)(e:us.length<=sizeLine:=by first | decide | (unfold sizeLine;simp)):EFT K (dW9 t) ρ (.tup us):=λS B σ H o I Q q=>h S B σ H o I _ λxs L z y n d r=>
 ⟨by rw[aU6 r];exact e,λp hp=>by
  have g:=D8 (o:=.tup xs) hp
  exact q _ L _ (L2.Same.tr y g) n d (.tup (SqT.of B3) (r.mono (N6 g) g))⟩
theorem N9 {t:TA}(h:AFT K t ρ us)(s:us.length<=sizeLine:=by first | decide | (unfold sizeLine;simp)):EFT K (dH6 t) ρ (.lst us):=λS B σ H o I Q q=>h S B σ H o I _ λxs L Y y n d r=>
 ⟨by rw[aU6 r];exact s,λp hp=>by
  have g:=D8 (o:=.lst xs) hp
  refine q _ (p::L) _ (L2.Same.tr y g) (λb hb=>?_) (Aa5.mpr ⟨λz=>?_,d⟩) (.lst B3 (r.mono ?_ g))
  .rcases Aa1.mp hb with rfl | hb
   .exact T1 y hp
   .exact n b hb
  .obtain⟨X,e⟩:=p7 us r p z;rw[hp]at e;cases e
  .refine F6 g λb z k=>?_
   rcases z with z | z
   .exact .inl z
   .rcases Aa1.mp z with rfl | z
    .exact absurd hp k
    .exact .inr z⟩
theorem cZ5 {i:Nat}{R:AE}(h:EFT K t ρ u)(g:R.nx (ρ.set i (.tr u)))(hi:i<ρ.length:=by first | decide | (simp;done) | (simp[LV.sl0];done)):W K (bB0 t (V6 i)) ρ R:=λS B D σ H o I s=>
 h S B σ H o I _ λv L e k n d r=>s.nx _ _ e _ (I.put i hi (λ_=>False) (λ_ z=>z.elim) (λb y q _=>k b y q) (λb z=>.inr (n b z)) (.inr ⟨u,rfl,d,r⟩) (.inl λ_ z=>z)) g
def AtP (K:Frag)(t:TE)(ρ:List Sl)(i:Nat)(π:AB):Prop:=
 ∀(S:Addr->Prop) (B:Hp) (σ:St) (H:Hp) (o:Nat->AK),Env K S B H σ ρ o->∀(u0 u:OT),ρ[i]? = some (.tr u0)->u0.at π=some u->∀Q:VK,
  (∀v0 v H',Same H H'->σ[i]? = some (some v0)->Foc K (hid (F0 ρ o S) H') H' v0 u0 (o i) π v u->Q v H')->t σ H Q
theorem aH8 {i:Nat}:AtP K (J7 i) ρ i []:=λS B σ H o I u0 u h e Q q=>by
 cases e
 obtain⟨_,v,a,b⟩:=I.tr i u0 h;exact⟨v,a,q v v H (L2.Same.rf _) a (Foc.root b)⟩
theorem Foc.grow {Z Z' H H':Hp}{v0 v:V}{L0:AK}{π:AB}(f:Foc K Z H v0 u0 L0 π v u)(l:∀b∈L0,∃u:HM,H b=some u.ho)(z:Same Z Z')(h:Same H H'):Foc K Z' H' v0 u0 L0 π v u:=
 f.mono z (λ_ _=>a7 h) λb y=>by obtain⟨xs,e⟩:=l b y;rw[e];exact h _ _ e
theorem Env.trL {S:Addr->Prop}{B H:Hp}{σ:St}{o:Nat->AK}{i:Nat}(I:Env K S B H σ ρ o)(h:ρ[i]? = some (.tr u0)):∀b∈o i,∃u:HM,H b=some u.ho:=λb e=>I.lists b (.inr ⟨i,_,h,rfl,e⟩)
theorem aK7 {i:Nat}{π:AB}{k:Int}(n:Nat)(hp:AtP K ta ρ i π)(M:E K false tb ρ (.int k))(R:k=n)(N:∀u0,ρ[i]? = some (.tr u0)->∃u,u0.at π=some u):AtP K (tOp (rIx K) ta tb) ρ i (π++[n]):=λS B σ H o I u0 u1 h Y Q q=>by
 obtain⟨u,y⟩:=N u0 h;rw[aL7 y]at Y;refine hp S B σ H o I u0 u h y _ λX v U z a f=>?_
 refine M S B σ U o (I.grow z) _ λw s g r=>?_
 cases r
 have J:=f.grow ((I.grow z).trL h) (N6 g) g
 obtain⟨p,xs,x,rfl,hs,D,f3⟩:=J.down y Y;have e:=M3 n R D;rcases hs with hs | hs
 .exact .inl ⟨p,xs,k,x,rfl,rfl,hs,e,q X x s (L2.Same.tr z g) a f3⟩
 .exact .inr (.inl ⟨p,xs,k,x,rfl,rfl,hs,e,q X x s (L2.Same.tr z g) a f3⟩)
end
section
variable {K:Frag}{ρ ρ' ρ1:List Sl}{m m':Bool}{t ta tb tc:TE}{d d':PyData}{ds es:AD}{u u0 u1:OT}{us us':List OT}
theorem aX0 {S:Addr->Prop}{B H H2:Hp}{σ:St}{o:Nat->AK}{i:Nat}{π:AB}{v0:V}{p:Addr}{x:V}{Lx:AK}(I:Env K S B H σ ρ o)(hi:ρ[i]? = some (.tr u0))(hv:σ[i]? = some (some v0))
  (f:Foc K (hid (F0 ρ o S) H) H v0 u0 (o i) π (.ref p) (.lst us)) (s:Same H H2) (D:∀b∈Lx,H b=none) (dx:Lx.Nodup) (rx:Dp K (hid (λb=>F0 ρ o S b\/b∈Lx) H2) H2 x u Lx)
  (nb:∀(j:Nat) (d:PyData),ρ[j]?≠some (Sl.bor d)) (Y:List V->List V) (us':List OT)
  (hc:∀(xs:List V) (M:AK) (Z' H':Hp),Dps K Z' H' xs us M->Dp K Z' H' x u Lx->∃M',Dps K Z' H' (Y xs) us' M'/\((M++Lx).Nodup->M'.Nodup)/\∀b∈M',b∈M++Lx) :
  ∃xs,H2 p=some (.lst xs)/\xs.length=us.length/\∃o',Env K S B (upd H2 p (.lst (Y xs))) σ (ρ.set i (.tr (u0.put π (.lst us')))) o':=by
 obtain⟨F,v0',hv',r0⟩:=I.tr i u0 hi;obtain⟨L,A,C,h1,Q,h3⟩:=f;cases h1 with
 | @lst _ xs _ M hp r=>
 have hlt:i<ρ.length:=(Ab0.mp hi).1
 have oi:∀b∈o i,cU5 ρ o i b:=λb hb=>⟨_,hi,rfl,hb⟩
 have os:∀b∈o i,F0 ρ o S b:=λb hb=>.inr ⟨i,_,hi,rfl,hb⟩
 have U:p∈o i:=by rw[Q];simp
 have g:∀b,(b∈A\/b∈M\/b∈C)->b∈o i/\b≠p:=λb hb=>by
  rw[Q]at F ⊢;refine⟨by rcases hb with hb | hb | hb <;> simp[hb],λe=>?_⟩
  subst e;simp only[Aa4,Aa5,Ab6,Aa0,Aa1,Ad7]at F;grind
 have lst:=I.trL hi
 have up:∀b,b∈o i->b≠p->upd H2 p (.lst (Y xs)) b=H b:=λb hb hne=>by
  rw[A8 hne];obtain⟨k,e⟩:=lst b hb;rw[e];exact s _ _ e
 have tk:∀a k,Rd H2 a (.tup k)->Rd (upd H2 p (.lst (Y xs))) a (.tup k):=λa k q=>by
  have n:a≠p:=λe=>by
   subst e
   have:=s _ _ hp
   rcases q with q | ⟨o,q⟩ <;> rw[this]at q <;> cases q
  rcases q with q | ⟨o,q⟩
  .exact .inl (by rw[A8 n];exact q)
  .exact .inr ⟨o,by rw[A8 n];exact q⟩
 have z1:Same (hid (F0 ρ o S) H) (hid (λb=>F0 ρ o S b\/b∈Lx) (upd H2 p (.lst (Y xs)))):=λb y q=>by
  obtain⟨N,R⟩:=hid_some.mp q;refine hid_some.mpr ⟨λz=>z.elim N λz=>(by rw[D b z]at R;cases R),?_⟩
  rw[A8 (λe=>N (os b (by rw[e];exact U)))]
  exact s _ _ R
 have z2:Same (hid (λb=>F0 ρ o S b\/b∈Lx) H2) (hid (λb=>F0 ρ o S b\/b∈Lx) (upd H2 p (.lst (Y xs)))):=λb y q=>by
  obtain⟨N,R⟩:=hid_some.mp q;refine hid_some.mpr ⟨N,?_⟩;rw[A8 (λe=>N (.inl (os b (by rw[e];exact U))))]
  exact R
 have pN:p∉Lx:=λz=>by rw[D p z]at hp;cases hp
 obtain⟨M',c1,c2,c3⟩:=hc xs M _ _ (p9 z1 (λa k q=>tk a k (a7 s q)) us (λb hb=>up b (g b (.inr (.inl hb))).1 (g b (.inr (.inl hb))).2) r)
  (aF5 z2 tk u (λb hb=>by rw[A8 (λe=>pN (by rw[<- e];exact hb))]) rx)
 have P:=h3 _ _ (.lst us') (p::M') z1 (λa k q=>tk a k (a7 s q)) (λb hb=>up b (g b (by rcases hb with hb | hb <;> simp[hb])).1 (g b (by rcases hb with hb | hb <;> simp[hb])).2) (.lst B3 c1)
 have J:∀b∈Lx,b∉o i:=λb hb hb'=>by
  obtain⟨k,e⟩:=lst b hb';rw[D b hb]at e;cases e
 have mem:∀b∈A++p::M'++C,b∈o i\/b∈Lx:=λb hb=>by
  rw[Q]
  have:=c3 b
  simp only[Aa0,Aa1]at hb this ⊢;grind
 have X:(A++p::M'++C).Nodup:=by
  rw[Q]at F J;simp only[Aa4,Aa5,Ab6,Aa0,Aa1,Ad7]at F J c2 c3 ⊢;grind
 refine⟨xs,s _ _ hp,aU6 r,bG6 o i (A++p::M'++C),?_⟩
 have:=I.put (H':=upd H2 p (.lst (Y xs))) (v:=v0) (x:=.tr (u0.put π (.lst us'))) (L:=A++p::M'++C) i hlt (λb=>b=p) (λb z=>by rw[z];exact oi p U) (λb y q z=>by rw[A8 z];exact s _ _ q)
  (λb hb=>(mem b hb).imp (oi b) (D b))
  (.inr ⟨_,rfl,X,P.mono (F6 (L2.Same.rf _) λb z _=>z.elim .inl λz=>(mem b z).elim (λz=>.inl (os b z)) .inr) (L2.Same.rf _)⟩) (.inr nb)
 rw[bR3 hv]at this;exact this
theorem bA0 {Z H:Hp}{x:V}{Lx:AK}:∀{us:List OT} {xs:List V} {M:AK},Dps K Z H xs us M->Dp K Z H x u Lx->Dps K Z H (xs++[x]) (us++[u]) (M++Lx)
 | [],_,_,r,h=>by cases r;simpa using Dps.cons h .nil
 | a::us,_,_,r,h=>by
  cases r with
  | @cons v _ vs _ La Lb r1 r2=>
   have:=Dps.cons r1 (bA0 r2 h)
   simpa using this
theorem o8 {i:Nat}{π:AB}{R:AE}(hp:AtP K ta ρ i π)(hi:ρ[i]? = some (.tr u0))(F:u0.at π=some (.lst us))(U:EFT K tb ρ u)(N:us.length<sizeLine)(Q:R.nx (ρ.set i (.tr (u0.put π (.lst (us++[u]))))))(nb:V8 ρ=true:=by rfl) :
  W K (bA2 (tBM K "list" aM9 ta (K7 tb S8))) ρ R:=λS B D σ H o I s=>by
 refine hp S B σ H o I u0 _ hi F _ λv0 v y e a f=>?_
 have ⟨L,A,C,Y,f2,f3⟩:=f
 cases Y with
 | @lst p xs _ M hpp r=>
 refine⟨.inl ⟨rfl,_,SqL.of hpp⟩,?_⟩;refine U S B σ y o (I.grow e) _ λx z H2 s2 n d rx=>?_
 obtain⟨ys,g,k,P,J⟩:=aX0 (I.grow e) hi a f s2 n d rx (N0 nb) (λxs=>xs++[x]) (us++[u]) λxs M Z' H' r1 r2=>⟨M++z,bA0 r1 r2,λh=>h,λb X=>X⟩
 exact⟨p,ys,x,rfl,rfl,g,by rw[k];exact N,s.nx _ σ _ P J Q⟩
theorem cD9 {Z H:Hp}{x:V}:∀{us:List OT} {xs:List V} {M:AK} {n:Nat},Dps K Z H xs us M->Dp K Z H x u []->∃M',Dps K Z H (xs.set n x) (us.set n u) M'/\(M.Nodup->M'.Nodup)/\∀b∈M',b∈M
 | [],_,_,n,r,h=>by cases r;exact⟨[],.nil,id,λ_ z=>z⟩
 | a::us,_,_,0,r,h=>by
  cases r with
  | @cons v _ vs _ La Lb r1 r2=>exact⟨Lb,by simpa using Dps.cons h r2,λz=>(Aa4.mp z).2.1,λb hb=>by simp[hb]⟩
 | a::us,_,_,n+1,r,h=>by
  cases r with
  | @cons v _ vs _ La Lb r1 r2=>
   obtain⟨M',h1,y,e⟩:=cD9 (n:=n) r2 h;refine⟨La++M',Dps.cons r1 h1,λz=>?_,λb hb=>?_⟩
   .obtain⟨k,s,Y⟩:=Aa4.mp z;exact Aa4.mpr ⟨k,y s,λa g b hb=>Y a g b (e b hb)⟩
   .rcases Aa0.mp hb with hb | hb
    .simp[hb]
    .simp[e b hb]
theorem dY7 {i:Nat}{π:AB}{k:Int}{R:AE}(n:Nat)(he:E K true t ρ d)(hp:AtP K ta ρ i π)(hk:E K false tb ρ (.int k))(e:k=n)(hn':n<us.length)(hi:ρ[i]? = some (.tr u0))(hu:u0.at π=some (.lst us))(hn:R.nx (ρ.set i (.tr (u0.put π (.lst (us.set n (.leaf d)))))))(nb:V8 ρ=true:=by rfl) :
  W K (bB0 t (dW0 ta tb cN5)) ρ R:=λS B D σ H o I s=>by
 refine he S B σ H o I _ λx U g rx=>?_
 refine hp S B σ U o (I.grow g) u0 _ hi hu _ λv0 v N Y a f=>?_
 have ⟨L,A,C,P,f2,f3⟩:=f
 cases P with
 | @lst p xs _ M hpp r=>
 refine hk S B σ N o ((I.grow g).grow Y) _ λw H2 X y=>?_
 cases y
 obtain⟨ys,F,e2,o',J⟩:=aX0 (x:=x) (u:=.leaf d) (Lx:=[]) ((I.grow g).grow Y) hi a f X (λb z=>nomatch z) .nil (.leaf (rx.mono (L2.Same.tr (N6 (L2.Same.tr Y X)) bL1))) (N0 nb) (λxs=>xs.set n x) (us.set n (.leaf d)) λxs M Z' H' r1 r2=>by
  obtain⟨Q,g1,g2,g3⟩:=cD9 (n:=n) r1 r2;exact⟨Q,g1,λh=>g2 (by simpa using h),λb hb=>by simpa using g3 b hb⟩
 exact⟨p,ys,k,n,rfl,rfl,F,by unfold ixN;rw[Ae (by lia),Ae (by lia)];simp[e],s.nx _ σ _ o' J hn⟩
def EX (K:Frag)(t:TE)(ρ:List Sl)(j:Nat)(d:PyData)(ρ':List Sl):Prop:=
 ∀(S:Addr->Prop) (B:Hp) (σ:St) (H:Hp) (o:Nat->AK),Env K S B H σ ρ o->∀Q:VK,(∀v H' o',Env K S B H' σ ρ' o'->(∀k,k≠j->o' k=o k)->(∀b y,H b=some y->b∉o j->H' b=some y)->(∀b∈o j,∃u:HM,H b=some u.ho) ->
  Same (hid (F0 ρ o S) H) (hid (F0 ρ' o' S) H')->Rep K (hid (F0 ρ' o' S) H') v d->Q v H')->t σ H Q
theorem bV0 {j:Nat}(r:ρ[j]? = some (.own (ds++[d])))(nb:V8 ρ=true:=by rfl):EX K (dZ4 K "list" dP7 (J7 j)) ρ j d (ρ.set j (.own ds)):=λS B σ H o I Q q=>by
 obtain⟨p,hp,a,xs,b,c⟩:=I.own j _ r;have N:=c.length;obtain⟨y,h1,U⟩:=c.get' (i:=ds.length) (d:=d) (by simp)
 refine⟨_,a,.inl ⟨rfl,xs,SqL.of b⟩,_,xs,y,rfl,rfl,b,by rw[N];simpa using h1,?_⟩
 have Y:=c.dropLast
 rw[List.dropLast_concat]at Y;have X:=I.upd r hp Y (N0 nb);have g:=cE5 (S:=S) (H:=H) (xs:=xs.dropLast) (es:=ds) r hp;exact q y _ _ X (λk M=>V3 (Ne.symm M)) (λs x e n=>by rw[A8 (λz=>n (by rw[hp,z];simp))];exact e) (λs J=>I.lists s (.inr ⟨j,_,r,rfl,J⟩)) g (U.mono g)
theorem bC0 {i j:Nat}{R:AE}(M:EX K t ρ j d ρ')(hi:ρ[i]? = some (.own ds))(e:ρ'[i]? = some (.own ds))(U:ds.length<sizeLine)(J:R.nx (ρ'.set i (.own (ds++[d]))))(nb:V8 ρ'=true:=by rfl) :
  W K (bA2 (tBM K "list" aM9 (J7 i) (K7 t S8))) ρ R:=λS B D σ H o I s=>by
 obtain⟨p,hp,a,xs,b,c⟩:=I.own i ds hi;refine⟨_,a,.inl ⟨rfl,xs,SqL.of b⟩,?_⟩;refine M S B σ H o I _ λv N Q g _ _ _ _ r=>?_
 obtain⟨F,y,k,z,X,Y⟩:=g.own i ds e;rw[a]at k;cases k;refine⟨_,z,v,rfl,rfl,X,by rw[Y.length];exact U,?_⟩
 exact s.nx _ σ _ _ (g.upd e y (Y.append (.cons r .nil)) (N0 nb)) J
theorem bW8 {i j:Nat}{π:AB}{R:AE}(hp:AtP K ta ρ i π)(hx:EX K t ρ j d ρ')(g:i≠j)(hj:∃x,ρ[j]? = some x/\x.os=true)(hi:ρ[i]? = some (.tr u0))(Y:ρ'[i]? = some (.tr u0))(hu:u0.at π=some (.lst us))(hl:us.length<sizeLine)(hn:R.nx (ρ'.set i (.tr (u0.put π (.lst (us++[.leaf d]))))))(nb:V8 ρ'=true:=by rfl) :
  W K (bA2 (tBM K "list" aM9 ta (K7 t S8))) ρ R:=λS B D σ H o I s=>by
 refine hp S B σ H o I u0 _ hi hu _ λv0 v H1 P a f=>?_
 have ⟨L,A,C,f1,f2,f3⟩:=f
 cases f1 with
 | @lst p xs _ M hpp r=>
 refine⟨.inl ⟨rfl,_,SqL.of hpp⟩,?_⟩;refine hx S B σ H1 o (I.grow P) _ λx H2 o' I' ho X U hz rx=>?_
 obtain⟨y,N,Q⟩:=hj;have F:=f.mono hz (H':=H2) (λa ys q=>by
  have n:a∉o j:=λz=>by
   obtain⟨zs,e⟩:=U a z;rcases q with q | ⟨o,q⟩ <;> rw[e]at q <;> replace q:=Ab4 q
   .exact HM.nt q
   .exact HM.nf q
  rcases q with q | ⟨o,q⟩
  .exact .inl (X _ _ q n)
  .exact .inr ⟨o,X _ _ q n⟩) λb k=>by
   obtain⟨zs,e⟩:=(I.grow P).trL hi b k;rw[e];exact X _ _ e λz=>g (I.inj i j _ y hi N rfl Q b k z)
 rw[<- ho i g]at F;obtain⟨ys,e1,e2,o2,J⟩:=aX0 (x:=x) (u:=.leaf d) (Lx:=[]) I' Y a F (L2.Same.rf _) (λb z=>nomatch z) .nil (.leaf (rx.mono bL1)) (N0 nb) (λxs=>xs++[x]) (us++[.leaf d]) λxs M Z' H' r1 r2=>⟨M++[],bA0 r1 r2,λh=>h,λb k=>k⟩
 exact⟨p,ys,x,rfl,rfl,e1,by rw[e2];exact hl,s.nx _ σ _ o2 J hn⟩
theorem Env.frz {S:Addr->Prop}{B H:Hp}{σ:St}{o:Nat->AK}{i:Nat}{x:Sl}(I:Env K S B H σ ρ o)(hi:ρ[i]? = some x)(Q:x=.own ds/\d=.list ds\/∃u,x=.tr u/\d=u.data):Env K S B H σ (ρ.set i (.val d)) o:=by
 have s:x.os=true:=by rcases Q with⟨rfl,_⟩ | ⟨u,rfl,_⟩ <;> rfl
 have M:i<ρ.length:=(Ab0.mp hi).1
 have at_:∀{j:Nat} {y:Sl},y≠.val d->(ρ.set i (.val d))[j]? = some y->i≠j/\ρ[j]? = some y:=λ{j y} r h=>by
  rw[List.getElem?_set]at h;by_cases c:i=j
  .rw[Ae c,Ae (by lia)]at h
   exact absurd (Ab4 h).symm r
  .rw[Ac c]at h;exact⟨c,h⟩
 have Y:∀{y:Sl},y.os=true->y≠.val d:=λ{y} h e=>by rw[e]at h;cases h
 have g:Same (hid (F0 ρ o S) H) (hid (F0 (ρ.set i (.val d)) o S) H):=F6 (L2.Same.rf _) λb z _=>aV0 rfl z
 have X:∀b∈o i,hid (F0 (ρ.set i (.val d)) o S) H b=H b:=λb U=>by
  obtain⟨xs,e⟩:=I.lists b (.inr ⟨i,x,hi,s,U⟩);rw[e];refine hid_some.mpr ⟨λz=>?_,e⟩
  rcases z with z | ⟨j,y,h,r,J⟩
  .obtain⟨P,e'⟩:=I.sl b z;rw[I.new i x hi s b U]at e';cases e'
  .obtain⟨c,h⟩:=at_ (Y r) h;exact c (I.inj i j x y hi h s r b U J)
 have lists:∀b,F0 (ρ.set i (.val d)) o S b->∃u:HM,H b=some u.ho:=λb z=>I.lists b (aV0 rfl z)
 refine⟨by simp[I.len],I.base,I.sl,λj y h r=>I.new j y (at_ (Y r) h).2 r,λj k y z h F r D=>I.inj j k y z (at_ (Y r) h).2 (at_ (Y D) F).2 r D,λj es h=>?_,λj d' h=>?_,λj d' h=>?_,λj t h=>?_⟩
 .obtain⟨c,h⟩:=at_ (Y rfl) h;obtain⟨p,N,a,xs,b,R⟩:=I.own j es h;exact⟨p,N,a,xs,b,R.mono g⟩
 .by_cases c:i=j
  .subst c;rw[Be M]at h;cases h;rcases Q with⟨rfl,rfl⟩ | ⟨u,rfl,rfl⟩
   .obtain⟨p,N,a,xs,b,R⟩:=I.own i ds hi;exact⟨_,a,.lst (SqL.of (by rw[X p (by rw[N];simp)];exact b)) (R.mono g)⟩
   .obtain⟨_,v,a,b⟩:=I.tr i u hi;exact⟨v,a,bY0 i9 (λ_ _ q=>aI4 lists q) g u X b⟩
  .rw[Ad0 c]at h;obtain⟨v,a,b⟩:=I.val j d' h;exact⟨v,a,b.mono g⟩
 .obtain⟨c,h⟩:=at_ (by simp) h
  exact I.bor j d' h
 .obtain⟨c,h⟩:=at_ (Y rfl) h;obtain⟨n,v,a,b⟩:=I.tr j t h;exact⟨n,v,a,b.mono g (L2.Same.rf _)⟩
theorem bE4 {i:Nat}{t:TS}{R:AE}(hi:ρ[i]? = some (.own ds))(h:W K t (ρ.set i (.val (.list ds))) R):W K t ρ R:=λS B D σ H o I s=>h S B D σ H o (I.frz hi (.inl ⟨rfl,rfl⟩)) s
theorem cW7 {i:Nat}{t:TS}{R:AE}(hi:ρ[i]? = some (.tr u))(h:W K t (ρ.set i (.val u.data)) R):W K t ρ R:=λS B D σ H o I s=>h S B D σ H o (I.frz (ds:=[]) hi (.inr ⟨u,rfl,rfl⟩)) s
theorem aF6 {α:Type}{f:α->OT}{g:α->PyData}(h:∀a,(f a).data=g a):∀l:List α,OT.datas (l.map f)=l.map g
 | []=>rfl
 | a::l=>by simp[OT.datas,h a,aF6 h l]
end
end LV
namespace LV
open PySem PySem.Spec PyProof.Rows L2
def cV8 (K:Frag):R2:=λx y H Q=>∃l b xs zs,x=.ref l/\y=.ref b/\SqL K H l xs/\SqL K H b zs/\xs.length+zs.length<=sizeLine/\∀p,H p=none->Q (.ref p) (upd H p (.lst (xs++zs)))
theorem J4 {X:Cx}(K:Frag)(h:X.K=K:=by rfl):OpR X (binaryOp .Add) (cV8 K):=by
 subst h;intro aA s σ H x y v u Q I rx ry h;obtain⟨l,b,xs,zs,rfl,rfl,hH,hB,hz,q⟩:=h;cases rx;cases ry;obtain⟨its,r,⟨⟨P,dd,data,sl⟩,n,ho,N,hdd,R⟩,_⟩:=I.list hH;obtain⟨z,B,⟨⟨M,U,Y,J⟩,n2,m,g,D,k⟩,_⟩:=I.list hB;simp only at N R g k;subst N R g k;have e:its.toArray++z.toArray=(its++z).toArray:=by simp
 have hl:=r.length
 have hl2:=B.length
 refine concat_meets ⟨_,ho,rfl⟩ ⟨_,m,rfl⟩ noFill_list_add seq_list_add PySem.F.slot_list_add PySem.F.entry_list_add (PySem.F.args_list_add_2 _ _) (list_addW l b its.toArray z.toArray n n2 dd U sl J (by simp;lia)) ⟨ho,m,?_⟩
 rw[e];exact⟨.ref _,_,I.lnew (t':=s.toks) (r.append B) (by rw[Ab7];lia),rfl,q _ I.fresh⟩
end LV
namespace LV
open PySem L2
section
variable {K:Frag}{ρ ρ' ρ1:List Sl}{m m':Bool}{t ta tb tc:TE}{d d':PyData}{ds es:AD}
theorem aD2:∀{l l':AD},K9 (l++l')=(K9 l&&K9 l')
 | [],l'=>by simp[K9]
 | a::l,l'=>by simp[K9,aD2 (l:=l),Bool.and_assoc]
theorem bT1:∀{l:AD},K9 l=true->∀d∈l,imm d=true
 | [],_,d,hd=>by simp at hd
 | a::l,h,d,hd=>by
  simp[K9]at h
  rcases Aa1.mp hd with rfl | z
  .exact h.1
  .exact bT1 h.2 d z
theorem bA3 (s:E K false ta ρ (.list ds))(Y:E K false tb ρ (.list es))(hi:K9 ds=true)(r:K9 es=true)(X:ds.length+es.length<=sizeLine:=by first | decide | (unfold sizeLine;simp;done)):EF K (tOp (cV8 K) ta tb) ρ (ds++es):=λS B σ H o I Q q=>
 s S B σ H o I _ λx k z U=>Y S B σ k o (I.grow z) _ λy M e J=>by
  cases U with
  | @lst a xs _ sa ra=>
  cases J with
  | @lst b ys _ sb rb=>
  have g:=ra.mono e
  refine⟨a,b,xs,ys,rfl,rfl,G6 e sa,sb,by rw[ra.length,rb.length];exact X,λp hp=>q p _ _ (L2.Same.tr z (L2.Same.tr e (D8 hp))) (T1 (L2.Same.tr z e) hp) B3 (aE1 ((I.grow z).grow e).lists hp (g.append rb) ?_)⟩
  rw[aD2,hi,r];rfl
def O (K:Frag)(t:TO)(ρ:List Sl)(i:Option Int):Prop:=
 ∀(S:Addr->Prop) (B:Hp) (σ:St) (H:Hp) (o:Nat->AK),Env K S B H σ ρ o->∀Q,(∀H',Same H H'->Q i H')->t σ H Q
def aI1 (xs:AD)(lo hi:Option Int):AD:=List.take (HT.sIx xs.length xs.length hi-HT.sIx xs.length 0 lo) (List.drop (HT.sIx xs.length 0 lo) xs)
theorem Reps.cut {H:Hp}{xs:List V}(r:Reps K H xs ds)(lo hi:Option Int):Reps K H (bL5 xs lo hi) (aI1 ds lo hi):=by
 unfold bL5 aI1;rw[r.length];exact(r.drop _).take _
theorem P0 (lo hi:Option Int)(h:K9 ds=true):K9 (aI1 ds lo hi)=true:=by
 refine bK5 λd e=>?_
 have:d∈ds:=Bx (As e)
 exact bT1 h d this
theorem y0:O K aV3 ρ none:=λS B σ H o I Q q=>q H (L2.Same.rf _)
theorem aC0 {i:Int}(h:E K false t ρ (.int i)):O K (dO0 t) ρ (some i):=λS B σ H o I Q q=>h S B σ H o I _ λv e s r=>by
 cases r
 exact⟨i,rfl,q e s⟩
theorem u7 {n:Nat}(h:n<=ds.length):aI1 ds (some (n:Int)) none=ds.drop n:=by
 unfold aI1 HT.sIx;simp only[];rw[Ac (by lia),Ac8,Nat.min_eq_left h]
 exact Cr (by simp)
theorem aQ4 {n:Nat}(h:n<=ds.length):aI1 ds none (some (n:Int))=ds.take n:=by
 unfold aI1 HT.sIx;simp only[];rw[Ac (by lia),Ac8,Nat.min_eq_left h]
 simp
theorem cE8 {tl th:TO}{lo hi:Option Int}(s:E K false ta ρ (.list ds))(X:O K tl ρ lo)(Y:O K th ρ hi)(z:K9 ds=true):EF K (tSl (dW4 K) ta tl th) ρ (aI1 ds lo hi):=λS B σ H o I Q q=>
 s S B σ H o I _ λx g y U=>X S B σ g o (I.grow y) _ λk r=>Y S B σ k o ((I.grow y).grow r) _ λM J=>by
  cases U with
  | @lst a xs _ sa ra=>
  have e:=L2.Same.tr r J
  exact⟨a,xs,rfl,G6 e sa,λp hp=>q p _ _ (L2.Same.tr y (L2.Same.tr e (D8 hp))) (T1 (L2.Same.tr y e) hp) B3 (aE1 (I.grow (L2.Same.tr y e)).lists hp ((ra.mono e).cut lo hi) (P0 lo hi z))⟩
end
end LV
namespace L2
open PySem
def dV5:Expr->Bool
 | .Starred ..=>false
 | _=>true
theorem aX2 {e:Expr}{es:AL}{env:Env}(h:dV5 e=true):starEach (e::es) env=(false,eval e env)::starEach es env:=by
 cases e <;> first | rfl | cases h
theorem A0 {X:Cx}{e:Expr}{es:AL}{te:TE}{t:TA}(y:PE X e te)(z:PA X es t)(h:dV5 e=true:=by rfl):PA X (e::es) (K7 te t):=dI4 y z (aX2 h)
theorem aW5 {X:Cx}(K:Frag){e:Expr}{te:TE}{p1 p2 pos1 pos2:Pos}(s:X.calm=true)(y:Gl X "list")(r:X.mg "list" = none)(z:Gl X "reversed")(g:X.mg "reversed" = none)(m:PE X e te)(k:X.K=K:=by rfl)(h:dV5 e=true:=by rfl) :
  PE X (.Call (.Name "list" p1) [.Call (.Name "reversed" p2) [e] [] pos2] [] pos1) (LV.bZ6 K te):=
 LV.bM9 K s y r z g m k (aX2 h) (aX2 rfl)
end L2
namespace TT
def lin:AB->Nat->Nat->Prop
 | c::d::l,a,b=>(a=c/\b=d)\/lin (d::l) a b
 | _,_,_=>False
theorem cE7 (a b:Nat):lin [] a b↔False:=Iff.rfl
theorem aU1 (c a b:Nat):lin [c] a b↔False:=Iff.rfl
theorem E3 (c d:Nat)(l:AB)(a b:Nat):lin (c::d::l) a b↔(a=c/\b=d)\/lin (d::l) a b:=Iff.rfl
theorem F4 (c:Nat)(w:AB)(a b:Nat):∀u:AB,lin (u++c::w) a b↔lin (u++[c]) a b\/lin (c::w) a b
 | []=>by simp[aU1]
 | [d]=>by simp[E3,aU1]
 | d::e::u=>by
  have y:=F4 c w a b (e::u)
  simp only[Ab6,E3]at y ⊢;rw[y];grind
theorem W0 {a b c:Nat}:∀{u:AB},lin (u++[c]) a b->a∈u
 | [],h=>h.elim
 | [d],h=>by
  rcases (E3 ..).mp h with⟨rfl,rfl⟩ | h
  .simp
  .exact h.elim
 | d::e::u,h=>by
  rcases (E3 ..).mp h with⟨rfl,rfl⟩ | h
  .simp
  .exact Ad4 _ (W0 (u:=e::u) h)
theorem t7 {a b c:Nat}{u:AB}(h:lin (c::u) a b):b∈u:=by
 induction u generalizing c with
 | nil=>exact h.elim
 | cons d u e=>
  rcases (E3 ..).mp h with⟨rfl,rfl⟩ | h
  .simp
  .exact Ad4 _ (e h)
theorem aF0 {l:AB}{a b:Nat}(h:lin l a b):a∈l/\b∈l:=by
 induction l with
 | nil=>exact h.elim
 | cons c l e=>
  refine⟨?_,Ad4 _ (t7 h)⟩;cases l with
  | nil=>exact h.elim
  | cons d l=>
   rcases (E3 ..).mp h with⟨rfl,rfl⟩ | h
   .simp
   .exact Ad4 _ (e h).1
def adj (l:AB)(a b:Nat):Prop:=lin (l++l.take 1) a b
structure Edit (row row':Nat->AB)(v x y:Nat)(L C R:AB):Prop where
 nd:∀q,(row q).Nodup
 self:∀q,q∉row q
 tri:∀q a b,adj (row q) a b->adj (row a) b q
 v2:v≠2
 fresh:∀q,v∉row q
 two:row 2=L++x::(C++y::R)
 newv:row' v=x::(C++[y,2])
 oldv:row v=[]
 new2:row' 2=L++x::v::y::R
 rx:∃u z w,row x=u++z::2::w/\row' x=u++z::v::2::w
 ry:∃u w,row y=u++2::w/\row' y=u++2::v::w
 rc:∀c∈C,∃u z w,row c=u++z::2::w/\row' c=u++z::v::w
 rest:∀q,q≠2->q≠v->q≠x->q≠y->q∉C->row' q=row q
section
variable {row row':Nat->AB}{v x y:Nat}{L C R:AB}
def EE (x y:Nat)(C:AB)(a b:Nat):Prop:=lin (x::(C++[y])) a b
def W (x y:Nat)(C:AB)(q a b:Nat):Prop:=(q=2/\EE x y C a b)\/(b=2/\EE x y C q a)\/(a=2/\EE x y C b q)
def W' (v x y:Nat)(C:AB)(q a b:Nat):Prop:=(q=v/\EE x y C a b)\/(b=v/\EE x y C q a)\/(a=v/\EE x y C b q) \/
 (q=2/\a=x/\b=v)\/(q=x/\a=v/\b=2)\/(q=v/\a=2/\b=x)\/(q=2/\a=v/\b=y)\/(q=v/\a=y/\b=2)\/(q=y/\a=2/\b=v)
theorem aY2 {a b:Nat}(h:EE x y C a b):(a=x\/a∈C)/\(b∈C\/b=y):=by
 have h1:=W0 (u:=x::C) h
 have e:=t7 h
 exact⟨by simpa using h1,by simpa using e⟩
theorem Edit.facts (E:Edit row row' v x y L C R):(x≠y/\x≠2/\y≠2/\x≠v/\y≠v)/\(∀c∈C,c≠x/\c≠y/\c≠2/\c≠v)/\(L++x::(C++y::R)).Nodup:=by
 have h:=E.nd 2
 have e:=E.self 2
 have z:=E.fresh 2
 rw[E.two]at h e z;refine⟨?_,?_,h⟩
 .grind
 .intro c hc;grind
theorem eK6 (E:Edit row row' v x y L C R)(a b:Nat):adj (row' 2) a b↔(adj (row 2) a b/\¬W x y C 2 a b)\/W' v x y C 2 a b:=by
 obtain⟨⟨B,P,f3,f4,f5⟩,fc,nd⟩:=E.facts;unfold adj;rw[E.two,E.new2];have Q:(L++x::(C++y::R)).take 1=(L++[x]).take 1:=by cases L <;> simp
 have D:(L++x::v::y::R).take 1=(L++[x]).take 1:=by cases L <;> simp
 rw[Q,D];generalize s:(L++[x]).take 1=t;have M:∀c∈t,c∈L++[x]:=λc k=>by rw[<- s]at k;exact As k
 have Y:L++x::(C++y::R)++t=L++x::(C++y::(R++t)):=by simp
 have X:L++x::v::y::R++t=L++x::v::y::(R++t):=by simp
 have U:x::(C++y::(R++t))=(x::C)++y::(R++t):=by simp
 rw[Y,X,F4 x (v::y::(R++t)) a b L,F4 x (C++y::(R++t)) a b L,U,F4 y _ a b (x::C),E3 x v,E3 v y];have J:lin ((x::C)++[y]) a b↔EE x y C a b:=Iff.rfl;rw[J];have r := @aY2 x y C;have g1:lin (L++[x]) a b->¬EE x y C a b:=λh q=>by
  have:=(aF0 h).2
  have:=(r q).2
  grind
 have g2:lin (y::(R++t)) a b->¬EE x y C a b:=λh q=>by
  have h2:=(r q).1
  have h3:a∈y::R:=by
   match t,s with
   | [],_=>
    rcases Ac5 R with e | ⟨m,z,e⟩
    .subst e;exact h.elim
    .subst e
     have:=W0 (u:=y::m) (by simpa using h)
     simp at this ⊢;try grind
   | [z],_=>exact W0 (u:=y::R) h
   | z::z'::t',e=>
    have:=congrArg List.length e
    simp at this
  grind
 have F:W x y C 2 a b↔EE x y C a b:=by
  unfold W;constructor
  .rintro (⟨_,h⟩ | ⟨_,h⟩ | ⟨_,h⟩)
   .exact h
   .have:=(r h).1;grind
   .have:=(r h).2;grind
  .exact λh=>.inl ⟨rfl,h⟩
 have g:W' v x y C 2 a b↔(a=x/\b=v)\/(a=v/\b=y):=by
  unfold W';have N:=E.v2;constructor
  .rintro (⟨h,_⟩ | ⟨_,h⟩ | ⟨_,h⟩ | h | h | h | h | h | h)
   .exact absurd h.symm N
   .have:=(r h).1;grind
   .have:=(r h).2;grind
   all_goals grind
  .grind
 rw[F,g];grind
theorem tk1 {l:AB}(h:l≠[]):∃c,l.take 1=[c]/\c∈l:=by
 cases l with
 | nil=>exact absurd rfl h
 | cons c l=>exact⟨c,by simp,by simp⟩
theorem bH8 (E:Edit row row' v x y L C R)(a b:Nat):∃t,(∀c∈t,c∈L++[x])/\t.length=1/\(adj (row 2) a b↔lin (L++[x]) a b\/EE x y C a b\/lin (y::(R++t)) a b):=by
 refine⟨(L++[x]).take 1,λc r=>As r,by simp,?_⟩
 unfold adj;rw[E.two];have g:(L++x::(C++y::R)).take 1=(L++[x]).take 1:=by cases L <;> simp
 rw[g];generalize (L++[x]).take 1=t;have e:L++x::(C++y::R)++t=L++x::(C++y::(R++t)):=by simp
 have z:x::(C++y::(R++t))=(x::C)++y::(R++t):=by simp
 rw[e,F4 x (C++y::(R++t)) a b L,z,F4 y _ a b (x::C)];exact Iff.rfl
theorem aU5 (E:Edit row row' v x y L C R){a b:Nat}(h:EE x y C a b):adj (row 2) a b:=by
 obtain⟨t,_,_,e⟩:=bH8 E a b;exact e.mpr (.inr (.inl h))
theorem cC8 (E:Edit row row' v x y L C R){a b:Nat}(h:adj (row 2) a b)(g:a=x\/a∈C):EE x y C a b:=by
 obtain⟨_,_,s⟩:=E.facts;obtain⟨t,k,r,e⟩:=bH8 E a b;rcases e.mp h with h | h | h
 .have:=W0 h;grind
 .exact h
 .obtain⟨z,rfl⟩:∃z,t=[z]:=List.length_eq_one_iff.mp r
  have:=W0 (u:=y::R) h
  grind
theorem bR7 (E:Edit row row' v x y L C R){a b:Nat}(h:adj (row 2) a b)(z:b∈C\/b=y):EE x y C a b:=by
 obtain⟨_,_,k⟩:=E.facts;obtain⟨t,g,r,e⟩:=bH8 E a b;rcases e.mp h with h | h | h
 .have:=(aF0 h).2;grind
 .exact h
 .have:=t7 h
  grind
theorem eG9 (E:Edit row row' v x y L C R){a b:Nat}:adj (row 2) a b↔adj (row a) b 2:=⟨E.tri _ _ _,λh=>E.tri _ _ _ (E.tri _ _ _ h)⟩
theorem dC2 (E:Edit row row' v x y L C R){a b:Nat}:adj (row 2) a b↔adj (row b) 2 a:=⟨λh=>E.tri _ _ _ (E.tri _ _ _ h),λh=>E.tri _ _ _ h⟩
theorem eK5 (E:Edit row row' v x y L C R)(a b:Nat):adj (row' v) a b↔(adj (row v) a b/\¬W x y C v a b)\/W' v x y C v a b:=by
 obtain⟨⟨k,s,f3,m,Y⟩,X,J⟩:=E.facts;have U:=E.v2;unfold adj;rw[E.newv,E.oldv];have e:x::(C++[y,2])++(x::(C++[y,2])).take 1=(x::C)++y::[2,x]:=by simp
 rw[e,F4 y [2,x] a b (x::C),E3,E3];have r:lin ((x::C)++[y]) a b↔EE x y C a b:=Iff.rfl;rw[r];have z := @aY2 x y C;have h1:∀c,¬EE x y C v c:=λc h=>by have:=(z h).1;grind
 have g:∀c,¬EE x y C c v:=λc h=>by have:=(z h).2;grind
 unfold W'
 simp[cE7,aU1,h1,g]
 grind
theorem eK9 (E:Edit row row' v x y L C R)(a b:Nat):adj (row' x) a b↔(adj (row x) a b/\¬W x y C x a b)\/W' v x y C x a b:=by
 obtain⟨⟨X,k,f3,U,f5⟩,fc,nd⟩:=E.facts;have hv:=E.v2;obtain⟨u,z,w,o,n⟩:=E.rx;have g:=E.nd x;have r:∀c,EE x y C x c↔adj (row x) c 2:=λc=>⟨λh=>E.tri _ _ _ (aU5 E h),λh=>cC8 E ((eG9 E).mpr h) (.inl rfl)⟩
 have M := @aY2 x y C
 have s:∀c,¬EE x y C c x:=λc h=>by have:=(M h).2;grind
 have P:W x y C x a b↔(b=2/\adj (row x) a 2):=by unfold W;simp[k,s,r]
 have w2:W' v x y C x a b↔(b=v/\adj (row x) a 2)\/(a=v/\b=2):=by unfold W';simp[k,U,X,s,r]
 rw[P,w2];unfold adj;rw[o]at g;rw[o,n];have F:(u++z::2::w).take 1=(u++[z]).take 1:=by cases u <;> simp
 have B:(u++z::v::2::w).take 1=(u++[z]).take 1:=by cases u <;> simp
 rw[F,B];have N:∀c∈(u++[z]).take 1,c∈u++[z]:=λc J=>As J
 generalize (u++[z]).take 1=t at N;have m:u++z::2::w++t=u++z::2::(w++t):=by simp
 have Y:u++z::v::2::w++t=u++z::v::2::(w++t):=by simp
 rw[m,Y,F4 z (2::(w++t)) a b u,F4 z (v::2::(w++t)) a b u,F4 z (2::(w++t)) a 2 u,E3,E3,E3,E3];have Q:¬lin (u++[z]) a 2:=λh=>by have:=(aF0 h).2;grind
 have D:¬lin (2::(w++t)) a 2:=λh=>by have:=t7 h;grind
 have n3:lin (u++[z]) a b->b≠2:=λh e=>Q (e▸h)
 have n4:lin (2::(w++t)) a b->b≠2:=λh e=>D (e▸h)
 grind
theorem eL3 (E:Edit row row' v x y L C R)(a b:Nat):adj (row' y) a b↔(adj (row y) a b/\¬W x y C y a b)\/W' v x y C y a b:=by
 obtain⟨⟨M,f2,f3,f4,N⟩,fc,nd⟩:=E.facts;have hv:=E.v2;obtain⟨u,w,o,n⟩:=E.ry;have k:=E.nd y;have g:∀c,EE x y C c y↔adj (row y) 2 c:=λc=>⟨λh=>(dC2 E).mp (aU5 E h),λh=>bR7 E ((dC2 E).mpr h) (.inr rfl)⟩
 have Q := @aY2 x y C
 have m:∀c,¬EE x y C y c:=λc h=>by have:=(Q h).1;grind
 have P:W x y C y a b↔(a=2/\adj (row y) 2 b):=by unfold W;simp[f3,m,g]
 have w2:W' v x y C y a b↔(a=v/\adj (row y) 2 b)\/(a=2/\b=v):=by unfold W';simp[f3,N,Ne.symm M,m,g]
 rw[P,w2];unfold adj;rw[o]at k;rw[o,n];have F:(u++2::w).take 1=(u++[2]).take 1:=by cases u <;> simp
 have B:(u++2::v::w).take 1=(u++[2]).take 1:=by cases u <;> simp
 rw[F,B];obtain⟨h,D,hh⟩:=tk1 (l:=u++[2]) (by simp)
 rw[D];have U:u++2::w++[h]=u++2::(w++[h]):=by simp
 have J:u++2::v::w++[h]=u++2::v::(w++[h]):=by simp
 rw[U,J];obtain⟨z,r,s⟩:∃z r,w++[h]=z::r:=by cases w with
  | nil=>exact⟨h,[],rfl⟩
  | cons c w=>exact⟨c,w++[h],rfl⟩
 have X:∀b,¬lin (z::r) 2 b:=λb q=>by rw[<- s]at q;have:=W0 q;grind
 have Y:∀b,¬lin (u++[2]) 2 b:=λb q=>by have:=W0 q;grind
 rw[s,F4 2 (z::r) a b u,F4 2 (v::z::r) a b u,F4 2 (z::r) 2 b u,E3,E3,E3,E3];have n3:lin (u++[2]) a b->a≠2:=λh e=>Y b (e▸h)
 have n4:lin (z::r) a b->a≠2:=λh e=>X b (e▸h)
 have:=Y b
 have:=X b
 grind
theorem eL6 (E:Edit row row' v x y L C R){c:Nat}(m:c∈C)(a b:Nat):adj (row' c) a b↔(adj (row c) a b/\¬W x y C c a b)\/W' v x y C c a b:=by
 obtain⟨⟨f1,f2,f3,f4,f5⟩,F,nd⟩:=E.facts;obtain⟨P,g2,M,g4⟩:=F c m;have hv:=E.v2;obtain⟨u,z,w,o,n⟩:=E.rc c m;have U:=E.nd c;have e:∀d,EE x y C c d↔adj (row c) d 2:=λd=>⟨λh=>E.tri _ _ _ (aU5 E h),λh=>cC8 E ((eG9 E).mpr h) (.inr m)⟩
 have g:∀d,EE x y C d c↔adj (row c) 2 d:=λd=>⟨λh=>(dC2 E).mp (aU5 E h),λh=>bR7 E ((dC2 E).mpr h) (.inl m)⟩
 have w1:W x y C c a b↔(b=2/\adj (row c) a 2)\/(a=2/\adj (row c) 2 b):=by unfold W;simp[M,e,g]
 have w2:W' v x y C c a b↔(b=v/\adj (row c) a 2)\/(a=v/\adj (row c) 2 b):=by unfold W';simp[P,g2,M,g4,e,g]
 rw[w1,w2];have B:v∉row c:=E.fresh c;unfold adj;rw[o]at U B;rw[o,n];have t1:(u++z::2::w).take 1=(u++[z]).take 1:=by cases u <;> simp
 have t2:(u++z::v::w).take 1=(u++[z]).take 1:=by cases u <;> simp
 rw[t1,t2];obtain⟨h,ht,hh⟩:=tk1 (l:=u++[z]) (by simp)
 rw[ht];have N:u++z::2::w++[h]=u++z::2::(w++[h]):=by simp
 have Q:u++z::v::w++[h]=u++z::v::(w++[h]):=by simp
 rw[N,Q];obtain⟨k,s,D⟩:∃k s,w++[h]=k::s:=by cases w with
  | nil=>exact⟨h,[],rfl⟩
  | cons c w=>exact⟨c,w++[h],rfl⟩
 have J:2∉w++[h]:=by grind
 rw[D]at J ⊢;have Y:∀p q,lin (u++[z]) p q->p≠2/\q≠2:=λp q h=>by have:=aF0 h;grind
 have X:∀p q,lin (k::s) p q->p≠2/\q≠2:=λp q h=>by have:=aF0 h;grind
 have fl:∀p q r,lin (u++z::r::k::s) p q↔lin (u++[z]) p q\/(p=z/\q=r)\/(p=r/\q=k)\/lin (k::s) p q:=λp q r=>by
  rw[F4 z (r::k::s) p q u,E3,E3]
 rw[fl,fl,fl,fl]
 have:=Y a b
 have:=X a b
 have:=Y a 2
 have:=X a 2
 have:=Y 2 b
 have:=X 2 b
 grind
theorem eJ9 (E:Edit row row' v x y L C R){q:Nat}(e:q≠2)(r:q≠v)(g:q≠x)(k:q≠y)(Y:q∉C)(a b:Nat):adj (row' q) a b↔(adj (row q) a b/\¬W x y C q a b)\/W' v x y C q a b:=by
 rw[E.rest q e r g k Y];have z := @aY2 x y C;have s:∀c,¬EE x y C q c:=λc h=>by have:=(z h).1;grind
 have m:∀c,¬EE x y C c q:=λc h=>by have:=(z h).2;grind
 unfold W W'
 simp[e,r,g,k,s,m]
theorem cT2 (E:Edit row row' v x y L C R)(q a b:Nat):adj (row' q) a b↔(adj (row q) a b/\¬W x y C q a b)\/W' v x y C q a b:=by
 by_cases e:q=2
 .subst e;exact eK6 E a b
 by_cases r:q=v
 .subst r;exact eK5 E a b
 by_cases g:q=x
 .subst g;exact eK9 E a b
 by_cases k:q=y
 .subst k;exact eL3 E a b
 by_cases z:q∈C
 .exact eL6 E z a b
 .exact eJ9 E e r g k z a b
theorem Edit.tri' (E:Edit row row' v x y L C R)(q a b:Nat)(h:adj (row' q) a b):adj (row' a) b q:=by
 rw[cT2 E]at h ⊢;rcases h with⟨h,n⟩ | h
 .refine .inl ⟨E.tri _ _ _ h,?_⟩;unfold W at n ⊢;grind
 .right
  unfold W' at h ⊢;rcases h with h | h | h | h | h | h | h | h | h
  all_goals obtain⟨e,h⟩:=h
  all_goals simp[e,h]
theorem Edit.nd' (E:Edit row row' v x y L C R)(q:Nat):(row' q).Nodup:=by
 obtain⟨⟨Y,X,f3,U,J⟩,M,Q⟩:=E.facts;have N:=E.v2;by_cases r:q=2
 .subst r;rw[E.new2]
  have:=E.fresh 2
  rw[E.two]at this;grind
 by_cases k:q=v
 .subst k;rw[E.newv];grind
 by_cases s:q=x
 .subst s;obtain⟨u,z,w,o,n⟩:=E.rx;have h1:=E.nd q;have e:=E.fresh q;rw[o]at h1 e;rw[n];grind
 by_cases m:q=y
 .subst m;obtain⟨u,w,o,n⟩:=E.ry;have h1:=E.nd q;have e:=E.fresh q;rw[o]at h1 e;rw[n];grind
 by_cases g:q∈C
 .obtain⟨u,z,w,o,n⟩:=E.rc q g;have h1:=E.nd q;have e:=E.fresh q;rw[o]at h1 e;rw[n];grind
 .rw[E.rest q r k s m g];exact E.nd q
theorem Edit.self' (E:Edit row row' v x y L C R)(q:Nat):q∉row' q:=by
 obtain⟨⟨Y,X,f3,U,J⟩,M,Q⟩:=E.facts;have N:=E.v2;have e:=E.self q;by_cases r:q=2
 .subst r;rw[E.two]at e;rw[E.new2];grind
 by_cases k:q=v
 .subst k;rw[E.newv];grind
 by_cases s:q=x
 .subst s;obtain⟨u,z,w,o,n⟩:=E.rx;rw[o]at e;rw[n];grind
 by_cases m:q=y
 .subst m;obtain⟨u,w,o,n⟩:=E.ry;rw[o]at e;rw[n];grind
 by_cases g:q∈C
 .obtain⟨u,z,w,o,n⟩:=E.rc q g;rw[o]at e;rw[n];grind
 .rw[E.rest q r k s m g];exact e
end
structure S where
 k:Nat
 path:AB
 heap:AB
 i0:Nat->AB
 i1:Nat->AB
 i2:Nat->AB
 o0:Nat->Nat
 o1:Nat->Nat
 o2:Nat->Nat
def put {α:Type}(f:Nat->α)(a:Nat)(x:α):Nat->α:=λb=>if b=a then x else f b
theorem B7 {α:Type}{f:Nat->α}{a:Nat}{x:α}:put f a x a=x:=by simp[put]
theorem C2 {α:Type}{f:Nat->α}{a b:Nat}{x:α}(h:b≠a):put f a x b=f b:=by simp[put,h]
def S.row (s:S)(q:Nat):AB:=
 if q=0 then 1::(s.i0 0++[2]) else if q=1 then 2::((s.i1 1).reverse++[0]) else if q=2 then s.path.reverse++s.heap
 else if q<s.k+3 then s.o0 q::(s.i2 q++s.o1 q::(s.i0 q++s.o2 q::(s.i1 q).reverse)) else []
def S.first:S:={k:=0,path:=[0],heap:=[1],i0:=λ_=>[],i1:=λ_=>[],i2:=λ_=>[],o0:=λ_=>2,o1:=λ_=>2,o2:=λ_=>2}
def S.h1 (s:S)(a:Nat):AB:=(s.path.take a).reverse++s.heap
def S.step (s:S)(a b:Nat):S where
 k:=s.k+1
 path:=(s.k+3)::s.path.drop a
 heap:=(s.h1 a).drop b
 i0:=put s.i0 ((s.path.drop a).headD 0) (s.i0 ((s.path.drop a).headD 0)++[s.k+3])
 i1:=put s.i1 (((s.h1 a).drop b).headD 0) (s.i1 (((s.h1 a).drop b).headD 0)++[s.k+3])
 i2:=put s.i2 (s.k+3) ((s.h1 a).take b)
 o0:=put s.o0 (s.k+3) ((s.path.drop a).headD 0)
 o1:=put s.o1 (s.k+3) (((s.h1 a).drop b).headD 0)
 o2:=λq=>if q=s.k+3 then 2 else if q∈(s.h1 a).take b then s.k+3 else s.o2 q
structure bM0 (s:S):Prop where
 nd:∀q,(s.row q).Nodup
 self:∀q,q∉s.row q
 tri:∀q a b,adj (s.row q) a b->adj (s.row a) b q
 lt:∀q,∀p∈s.row q,p<s.k+3
 pe:∃p,s.path=p++[0]
 he:∃h,s.heap=h++[1]
 bd:∀q,(q∈s.path\/q∈s.heap)->q≠2/\(3<=q->s.o2 q=2)
 emp:∀q,s.k+3<=q->s.i0 q=[]/\s.i1 q=[]
theorem bL3 {s:S}{q:Nat}(h:s.k+3<=q):s.row q=[]:=by
 unfold S.row;rw[Ac (by lia),Ac (by lia),Ac (by lia),Ac (by lia)]
theorem M7 {s:S}{q:Nat}(h:3<=q)(h':q<s.k+3):s.row q=s.o0 q::(s.i2 q++s.o1 q::(s.i0 q++s.o2 q::(s.i1 q).reverse)):=by
 unfold S.row;rw[Ac (by lia),Ac (by lia),Ac (by lia),Ae h']
theorem Y4 {s:S}:s.row 2=s.path.reverse++s.heap:=by simp[S.row]
theorem aC5 {s:S}:s.row 0=1::(s.i0 0++[2]):=by simp[S.row]
theorem aK6 {s:S}:s.row 1=2::((s.i1 1).reverse++[0]):=by simp[S.row]
theorem bV8:bM0 S.first where
 nd:=λq=>by
  unfold S.row S.first;dsimp only
  repeat' split
  all_goals simp
  lia
 self:=λq=>by
  unfold S.row S.first;dsimp only
  repeat' split
  all_goals simp
  all_goals lia
 tri:=λq a b h=>by
  have e:∀q a b,adj (S.first.row q) a b↔(q=0/\((a=1/\b=2)\/(a=2/\b=1)))\/(q=1/\((a=2/\b=0)\/(a=0/\b=2)))\/(q=2/\((a=0/\b=1)\/(a=1/\b=0))):=λq a b=>by
   unfold S.row S.first adj;dsimp only
   repeat' split
   all_goals (simp_all[lin])
   all_goals lia
  rw[e]at h ⊢;rcases h with⟨rfl,⟨rfl,rfl⟩ | ⟨rfl,rfl⟩⟩ | ⟨rfl,⟨rfl,rfl⟩ | ⟨rfl,rfl⟩⟩ | ⟨rfl,⟨rfl,rfl⟩ | ⟨rfl,rfl⟩⟩ <;> decide
 lt:=λq p=>by
  unfold S.row S.first;dsimp only
  repeat' split
  all_goals (simp <;> lia)
 pe:=⟨[],rfl⟩
 he:=⟨[],rfl⟩
 bd:=λq h=>by
  simp only[S.first,Ad8]at h
  lia
 emp:=λq _=>⟨rfl,rfl⟩
theorem cE4 {s:S}(I:bM0 s){a b:Nat}(ha:a<s.path.length)(hb:b<a+s.heap.length) :
  ∃x px y hy,s.path.drop a=x::px/\(s.h1 a).drop b=y::hy/\Edit s.row (s.step a b).row (s.k+3) x y px.reverse ((s.h1 a).take b) hy/\bM0 (s.step a b):=by
 obtain⟨p0,J⟩:=I.pe;obtain⟨h0,D⟩:=I.he;obtain⟨x,px,r⟩:∃x px,s.path.drop a=x::px:=by
  cases e:s.path.drop a with
  | nil=>have:=List.drop_eq_nil_iff.mp e;lia
  | cons x px=>exact⟨x,px,rfl⟩
 have hl:(s.h1 a).length=a+s.heap.length:=by
  unfold S.h1;simp;lia
 obtain⟨y,hy,g⟩:∃y hy,(s.h1 a).drop b=y::hy:=by
  cases e:(s.h1 a).drop b with
  | nil=>have:=List.drop_eq_nil_iff.mp e;lia
  | cons y hy=>exact⟨y,hy,rfl⟩
 have two:s.row 2=px.reverse++x::((s.h1 a).take b++y::hy):=by
  rw[Y4,<- g,Ad3]
  have:s.path=s.path.take a++x::px:=by rw[<- r,Ad3]
  conv=>lhs;rw[this]
  unfold S.h1
  simp
 have nd2:=I.nd 2
 have M:=I.self 2
 have m:=I.lt 2
 rw[two]at nd2 M m;have pl:∃p1,x::px=p1++[0]:=by
  rw[<- r,J];rw[J]at ha;simp at ha;rw[List.drop_append_of_le_length (by lia)]
  exact⟨_,rfl⟩
 have F:∃h1,y::hy=h1++[1]:=by
  rw[<- g];unfold S.h1;rw[D,<- Ad7]
  have:(p0.length:Nat)+1=s.path.length:=by rw[J];simp
  have l1:((s.path.take a).reverse++h0).length=a+h0.length:=by simp;lia
  have l2:s.heap.length=h0.length+1:=by rw[D];simp
  rw[List.drop_append_of_le_length (by lia)]
  exact⟨_,rfl⟩
 have one_mem:1∈y::hy:=by obtain⟨h1,e⟩:=F;rw[e];simp
 have R:0∈x::px:=by obtain⟨h1,e⟩:=pl;rw[e];simp
 generalize N:(s.h1 a).take b=C at *;have Q:∀c∈C,c≠0/\c≠1/\c≠2/\c<s.k+3:=by
  intro c X;refine⟨?_,?_,?_,m c (by simp[X])⟩
  .rintro rfl;grind
  .rintro rfl;grind
  .rintro rfl;grind
 have hx:x≠1/\x≠2/\x<s.k+3:=⟨by rintro rfl;grind,by rintro rfl;grind,m x (by simp)⟩
 have hyy:y≠0/\y≠2/\y<s.k+3:=⟨by rintro rfl;grind,by rintro rfl;grind,m y (by simp)⟩
 have U:∀q,q∈s.row 2->3<=q->s.o2 q=2:=λq Y h3=>by
  rw[Y4]at Y;simp at Y;exact(I.bd q Y).2 h3
 have B:3<=x->s.o2 x=2:=U x (by rw[two];simp)
 have P:3<=y->s.o2 y=2:=U y (by rw[two];simp)
 have o2c:∀c∈C,s.o2 c=2:=λc X=>by
  have:=Q c X
  exact U c (by rw[two];simp[X]) (by lia)
 have xy:x≠y:=by rintro rfl;grind
 have xC:x∉C:=by grind
 have yC:y∉C:=by grind
 have E:Edit s.row (s.step a b).row (s.k+3) x y px.reverse C hy:=by
  refine⟨I.nd,I.self,I.tri,by lia,λq Y=>?_,two,?_,bL3 (Aa7 _),?_,?_,?_,?_,?_⟩
  .have:=I.lt q _ Y;lia
  .rw[M7 (by lia) (by simp[S.step])]
   have e1:=I.emp (s.k+3) (Aa7 _)
   simp only[S.step,r,g,N,Bz,B7,if_true];rw[C2 (by lia),C2 (by lia),e1.1,e1.2]
   simp
  .rw[Y4];simp only[S.step,r,g]
   simp
  .by_cases x0:x=0
   .subst x0;rcases Ac5 (1::s.i0 0) with e | ⟨u,z,e⟩
    .cases e
    .refine⟨u,z,[],?_,?_⟩
     .rw[aC5,<- Ab6,e];simp
     .rw[aC5];simp only[S.step,r,Bz,B7];rw[Ad7,<- Ab6,e];simp
   .have x3:3<=x:=by lia
    rcases Ac5 (s.o0 x::(s.i2 x++s.o1 x::s.i0 x)) with e | ⟨u,z,e⟩
    .cases e
    .refine⟨u,z,(s.i1 x).reverse,?_,?_⟩
     .rw[M7 x3 hx.2.2,B x3]
      have:s.o0 x::(s.i2 x++s.o1 x::(s.i0 x++2::(s.i1 x).reverse))=(s.o0 x::(s.i2 x++s.o1 x::s.i0 x))++2::(s.i1 x).reverse:=by simp
      rw[this,e];simp
     .rw[M7 x3 (by simp[S.step];lia)]
      simp only[S.step,r,g,N,Bz,B7];rw[C2 (by lia),C2 (by lia),C2 (by lia),C2 xy,Ac (by lia),Ac xC,B x3]
      have:s.o0 x::(s.i2 x++s.o1 x::(s.i0 x++[s.k+3]++2::(s.i1 x).reverse))=(s.o0 x::(s.i2 x++s.o1 x::s.i0 x))++(s.k+3)::2::(s.i1 x).reverse:=by simp
      rw[this,e];simp
  .by_cases y1:y=1
   .subst y1;refine⟨[],(s.i1 1).reverse++[0],?_,?_⟩
    .rw[aK6];simp
    .rw[aK6];simp only[S.step,g,Bz,B7]
     simp
   .have y3:3<=y:=by lia
    refine⟨s.o0 y::(s.i2 y++s.o1 y::s.i0 y),(s.i1 y).reverse,?_,?_⟩
    .rw[M7 y3 hyy.2.2,P y3];simp
    .rw[M7 y3 (by simp[S.step];lia)]
     simp only[S.step,r,g,N,Bz,B7];rw[C2 (by lia),C2 (by lia),C2 (by lia),C2 (Ne.symm xy),Ac (by lia),Ac yC,P y3]
     simp
  .intro c X;obtain⟨c0,c1,c2,ck⟩:=Q c X;have c3:3<=c:=by lia
   have cx:c≠x:=λe=>xC (e▸X)
   have cy:c≠y:=λe=>yC (e▸X)
   rcases Ac5 (s.o0 c::(s.i2 c++s.o1 c::s.i0 c)) with e | ⟨u,z,e⟩
   .cases e
   .refine⟨u,z,(s.i1 c).reverse,?_,?_⟩
    .rw[M7 c3 ck,o2c c X]
     have:s.o0 c::(s.i2 c++s.o1 c::(s.i0 c++2::(s.i1 c).reverse))=(s.o0 c::(s.i2 c++s.o1 c::s.i0 c))++2::(s.i1 c).reverse:=by simp
     rw[this,e];simp
    .rw[M7 c3 (by simp[S.step];lia)]
     simp only[S.step,r,g,N,Bz];rw[C2 (by lia),C2 (by lia),C2 (by lia),C2 cx,C2 cy,Ac (by lia),Ae X]
     have:s.o0 c::(s.i2 c++s.o1 c::(s.i0 c++(s.k+3)::(s.i1 c).reverse))=(s.o0 c::(s.i2 c++s.o1 c::s.i0 c))++(s.k+3)::(s.i1 c).reverse:=by simp
     rw[this,e];simp
  .intro q q2 qv qx qy qC;by_cases q0:q=0
   .subst q0;rw[aC5,aC5];simp only[S.step,r,Bz];rw[C2 qx]
   by_cases q1:q=1
   .subst q1;rw[aK6,aK6];simp only[S.step,g,Bz];rw[C2 qy]
   by_cases qk:q<s.k+3
   .rw[M7 (by lia) qk,M7 (by lia) (by simp[S.step];lia)]
    simp only[S.step,r,g,N,Bz];rw[C2 qv,C2 qv,C2 qv,C2 qx,C2 qy,Ac qv,Ac qC]
   .rw[bL3 (s:=s.step a b) (by show s.k+1+3<=q;lia),bL3 (s:=s) (by lia)]
 refine⟨x,px,y,hy,r,g,E,⟨E.nd',E.self',E.tri',λq p hp=>?_,?_,?_,λq Y=>?_,λq Y=>?_⟩⟩
 .show p<s.k+1+3
  by_cases h2:q=2
  .subst h2;rw[E.new2]at hp
   have:=m p
   grind
  by_cases hv:q=s.k+3
  .subst hv;rw[E.newv]at hp
   have:=m p
   grind
  by_cases qx:q=x
  .subst qx;obtain⟨u,z,w,o,n⟩:=E.rx
   have:=I.lt q p
   rw[o]at this;rw[n]at hp;grind
  by_cases qy:q=y
  .subst qy;obtain⟨u,w,o,n⟩:=E.ry
   have:=I.lt q p
   rw[o]at this;rw[n]at hp;grind
  by_cases qC:q∈C
  .obtain⟨u,z,w,o,n⟩:=E.rc q qC
   have:=I.lt q p
   rw[o]at this;rw[n]at hp;grind
  .rw[E.rest q h2 hv qx qy qC]at hp
   have:=I.lt q p hp
   lia
 .obtain⟨p1,e⟩:=pl;exact⟨(s.k+3)::p1,by simp only[S.step,r,e];simp⟩
 .obtain⟨h1,e⟩:=F;exact⟨h1,by simp only[S.step,g,e]⟩
 .have hq':q=s.k+3\/q∈x::px\/q∈y::hy:=by
   simp only[S.step,r,g]at Y;simp at Y ⊢;grind
  rcases hq' with rfl | hq'
  .exact⟨by lia,λ_=>by simp[S.step]⟩
  .have hm:q∈s.row 2:=by rw[two];grind
   have hnC:q∉C:=by grind
   refine⟨by rintro rfl;exact I.self 2 hm,λh3=>?_⟩
   simp only[S.step,N];rw[Ac (by have:=I.lt 2 q hm;lia),Ac hnC]
   exact U q hm h3
 .have Y:s.k+1+3<=q:=Y
  have:=I.emp q (by lia)
  simp only[S.step,r,g,Bz];rw[C2 (by lia),C2 (by lia)]
  exact this
theorem bN0 {f:Nat->Nat}(l:AB)(x y:Nat):lin (l.map f) x y↔∃a b,x=f a/\y=f b/\lin l a b:=by
 induction l with
 | nil=>simp[cE7]
 | cons c l e=>
  cases l with
  | nil=>simp[aU1]
  | cons d l=>
   simp only[Ac7,E3];simp only[Ac7]at e;rw[e];constructor
   .rintro (⟨rfl,rfl⟩ | ⟨a,b,e1,e2,h⟩)
    .exact⟨c,d,rfl,rfl,.inl ⟨rfl,rfl⟩⟩
    .exact⟨a,b,e1,e2,.inr h⟩
   .rintro⟨a,b,rfl,rfl,⟨rfl,rfl⟩ | h⟩
    .exact .inl ⟨rfl,rfl⟩
    .exact .inr ⟨a,b,rfl,rfl,h⟩
theorem dJ3 {f:Nat->Nat}(l:AB)(x y:Nat):adj (l.map f) x y↔∃a b,x=f a/\y=f b/\adj l a b:=by
 unfold adj;rw[<- bN0]
 simp
theorem bI8 (u w:AB)(x y:Nat):adj (w++u) x y↔adj (u++w) x y:=by
 cases u with
 | nil=>simp
 | cons a u=>
  cases w with
  | nil=>simp
  | cons b w=>
   unfold adj;have e:b::w++a::u++(b::w++a::u).take 1=(b::w)++a::(u++[b]):=by simp
   have z:a::u++b::w++(a::u++b::w).take 1=(a::u)++b::(w++[a]):=by simp
   rw[e,z,F4 a (u++[b]) x y (b::w),F4 b (w++[a]) x y (a::u)];simp only[Ab6];exact Or.comm
theorem M4 {l:AB}{a b:Nat}(h:adj l a b):a∈l/\b∈l:=by
 have:=aF0 h
 simp only[Aa0]at this;exact⟨this.1.elim id As,this.2.elim id As⟩
theorem bQ7 {l:AB}{a:Nat}(h:a∈l):∃b,adj l a b:=by
 obtain⟨u,w,rfl⟩:=Ad5 h;obtain⟨b,r,e⟩:∃b r,(w++(u++[a]).take 1)=b::r:=by
  cases w with
  | nil=>cases u with
   | nil=>exact⟨a,[],rfl⟩
   | cons c u=>exact⟨c,[],rfl⟩
  | cons c w=>exact⟨c,_,rfl⟩
 refine⟨b,?_⟩;unfold adj;have t:(u++a::w).take 1=(u++[a]).take 1:=by cases u <;> simp
 rw[t,Ad7,Ab6,e,F4,E3];exact .inr (.inl ⟨rfl,rfl⟩)
theorem cN8 {l:AB}(U:l.Nodup){a b c:Nat}(h1:adj l a c)(Y:adj l b c):a=b:=by
 have X:=(M4 h1).2
 obtain⟨u,w,rfl⟩:=Ad5 X;have r:=(bI8 u (c::w) a c).mpr h1;have g:=(bI8 u (c::w) b c).mpr Y;have nd':(c::(w++u)).Nodup:=by grind
 have e:c::w++u=c::(w++u):=rfl
 rw[e]at r g;generalize w++u=v at *;unfold adj at r g;rcases Ac5 v with k | ⟨y,d,k⟩
 .subst k
  simp[lin]at r g
  lia
 .subst k;have q:∀z,lin (c::y.concat d++List.take 1 (c::y.concat d)) z c->z=d:=λz s=>by
   have m:c::y.concat d++List.take 1 (c::y.concat d)=(c::y)++d::[c]:=by simp
   rw[m,F4,E3]at s;rcases s with h | h | h
   .have:=t7 (c:=c) (u:=y++[d]) h
    simp at nd'
    grind
   .exact h.1
   .exact h.elim
  rw[q a r,q b g]
def mn (l:AB):Nat:=l.min?.getD 0
theorem dL3 {l:AB}{m:Nat}(h:m∈l)(h':∀a∈l,m<=a):mn l=m:=by
 unfold mn;rw[List.min?_eq_some_iff.mpr ⟨h,h'⟩];rfl
theorem aO0 {l:AB}(h:l≠[]):mn l∈l/\∀a∈l,mn l<=a:=by
 unfold mn;cases e:l.min? with
 | none=>exact absurd (List.min?_eq_none_iff.mp e) h
 | some m=>exact List.min?_eq_some_iff.mp e
def G4 (l:AB):AB:=l.drop (l.idxOf (mn l))++l.take (l.idxOf (mn l))
theorem aJ3 (l:AB):(G4 l).Perm l:=by
 unfold G4;exact(Df).trans (by rw[Ad3])
theorem cK9 (l:AB)(a b:Nat):adj (G4 l) a b↔adj l a b:=by
 unfold G4;rw[bI8,Ad3]
theorem bV5 {l:AB}(h:l≠[]):∃r,G4 l=mn l::r:=by
 have e:=(aO0 h).1
 have hi:=Cb.mpr e
 unfold G4;rw[Ao hi];exact⟨_,by rw[List.getElem_idxOf hi];rfl⟩
theorem bI9 (l:AB):(G4 l).length=l.length:=(aJ3 l).length_eq
theorem begun_mem {l:AB}{a:Nat}:a∈G4 l↔a∈l:=(aJ3 l).mem_iff
theorem bR9 {l:AB}:(G4 l).Nodup↔l.Nodup:=(aJ3 l).nodup_iff
theorem aE7 {a b:AB}{z:Nat}(y:z∉a)(e:mn (a++z::b)=z):G4 (a++z::b)=z::(b++a):=by
 unfold G4;have r:(a++z::b).idxOf z=a.length:=by rw[List.idxOf_append,Ac y];simp
 rw[e,r]
 simp
theorem bY9 {u w:AB}(U:(u++w).Nodup):G4 (w++u)=G4 (u++w):=by
 by_cases k:u++w=[]
 .simp at k;obtain⟨rfl,rfl⟩:=k;rfl
 have m:=aO0 k
 have e:mn (w++u)=mn (u++w):=dL3 (by grind) (λa X=>m.2 a (by grind))
 generalize y:mn (u++w)=z at *;rcases Aa0.mp m.1 with Y | hw
 .obtain⟨a,b,rfl⟩:=Ad5 Y;have s:z∉a:=by grind
  have nw:z∉w:=by grind
  have r:a++z::b++w=a++z::(b++w):=by simp
  have g:w++(a++z::b)=(w++a)++z::b:=by simp
  rw[r]at y ⊢;rw[g]at e ⊢;rw[aE7 s y,aE7 (by grind) e]
  simp
 .obtain⟨a,b,rfl⟩:=Ad5 hw;have s:z∉a:=by grind
  have nu:z∉u:=by grind
  have r:u++(a++z::b)=(u++a)++z::b:=by simp
  have g:a++z::b++u=a++z::(b++u):=by simp
  rw[r]at y ⊢;rw[g]at e ⊢;rw[aE7 (by grind) y,aE7 s e]
  simp
structure Good (n:Nat)(r:Nat->AB):Prop where
 nd:∀q,(r q).Nodup
 self:∀q,q∉r q
 tri:∀q a b,adj (r q) a b->adj (r a) b q
 lt:∀q,∀p∈r q,p<n
 hi:∀q,n<=q->r q=[]
 two:∀q,q<n->2<=(r q).length
 out:adj (r 2) 1 0
 conn:∀R:Nat->Prop,R 0->(∀a b,R a->b∈r a->R b)->∀q,q<n->R q
 sum:((List.range n).map λq=>(r q).length).sum+12=6*n
 three:3<=n
theorem Good.sym {n:Nat}{r:Nat->AB}(G:Good n r){p q:Nat}(h:q∈r p):p∈r q:=by
 obtain⟨b,e⟩:=bQ7 h;exact(M4 (G.tri _ _ _ e)).2
structure bP7 (s:S):Prop where
 two:∀q,q<s.k+3->2<=(s.row q).length
 o0:∀q,3<=q->q<s.k+3->s.o0 q<q/\s.o0 q∈s.row q
 sum:((List.range (s.k+3)).map λq=>(s.row q).length).sum+12=6*(s.k+3)
theorem bU1:bP7 S.first where
 two:=λq h=>by
  have h:q<3:=h
  match q,h with
  | 0,_=>decide
  | 1,_=>decide
  | 2,_=>decide
 o0:=λq h e=>by
  have e:q<3:=e
  lia
 sum:=by decide
theorem bW4 {n:Nat}{f g:Nat->Nat}{l:AB}(m:l.Nodup)(z:∀q∈l,q<n)(h:∀q,q<n->q∉l->f q=g q) :
  ((List.range n).map f).sum+(l.map g).sum=((List.range n).map g).sum+(l.map f).sum:=by
 induction l generalizing f with
 | nil=>
  have:(List.range n).map f=(List.range n).map g:=Ax λq y=>h q (Ab5.mp y) (by simp)
  simp[this]
 | cons c l s=>
  have U:=z c (by simp)
  have nd':=Aa5.mp m
  have k:∀(f:Nat->Nat) (x:Nat),((List.range n).map λq=>if q=c then x else f q).sum+f c=((List.range n).map f).sum+x:=by
   intro f x
   clear h s z m nd'
   induction n with
   | zero=>lia
   | succ n r=>
    rw[Bd,Ad2,Ad2,List.sum_append,List.sum_append];by_cases e:c=n
    .subst e
     have:(List.range c).map (λq=>if q=c then x else f q)=(List.range c).map f:=Ax λq y=>by
      have:=Ab5.mp y
      rw[Ac (by lia)]
     rw[this]
     simp
     lia
    .have:=r (by lia)
     simp only[Ac7,Dq,List.sum_cons,List.sum_nil];rw[Ac (Ne.symm e)]
     lia
  have J:=k f (g c)
  have:=s (f:=λq=>if q=c then g c else f q) nd'.2 (λq y=>z q (by simp[y])) (λq y X=>by
   by_cases e:q=c
   .subst e;simp
   .simp only[Ac e];exact h q y (by simp[e,X]))
  have Y:(l.map λq=>if q=c then g c else f q)=l.map f:=Ax λq y=>by
   rw[Ac (by rintro rfl;exact nd'.1 y)]
  rw[Y]at this;simp only[Ac7,List.sum_cons]
  lia
theorem cK8 {s:S}(I:bM0 s)(M:bP7 s){a b:Nat}(ha:a<s.path.length)(hb:b<a+s.heap.length):bP7 (s.step a b):=by
 obtain⟨x,px,y,D,ex,ey,E,I'⟩:=cE4 I ha hb;obtain⟨⟨f1,f2,f3,f4,f5⟩,fc,nd⟩:=E.facts;have hx:x<s.k+3:=I.lt 2 x (by rw[E.two];simp)
 have hyl:y<s.k+3:=I.lt 2 y (by rw[E.two];simp)
 have lx:((s.step a b).row x).length=(s.row x).length+1:=by
  obtain⟨u,z,w,o,n⟩:=E.rx;rw[o,n];simp;lia
 have ly:((s.step a b).row y).length=(s.row y).length+1:=by
  obtain⟨u,w,o,n⟩:=E.ry;rw[o,n];simp;lia
 have B:∀q,q≠2->q≠s.k+3->q≠x->q≠y->((s.step a b).row q).length=(s.row q).length:=λq J m X U=>by
  by_cases Q:q∈(s.h1 a).take b
  .obtain⟨u,z,w,o,n⟩:=E.rc q Q;rw[o,n];simp
  .rw[E.rest q J m X U Q]
 have F:((s.step a b).row 2).length=px.length+3+D.length:=by rw[E.new2];simp;lia
 have g2:(s.row 2).length=px.length+2+((s.h1 a).take b).length+D.length:=by rw[E.two];simp only[Ab7,Aw,Ae1];lia
 have P:((s.step a b).row (s.k+3)).length=((s.h1 a).take b).length+3:=by rw[E.newv];simp only[Ab7,Aw,List.length_nil]
 have N:(s.row (s.k+3)).length=0:=by rw[E.oldv];rfl
 refine⟨λq r=>?_,λq R r=>?_,?_⟩
 .have r:q<s.k+1+3:=r
  by_cases J:q=2
  .rw[J,F];lia
  by_cases m:q=s.k+3
  .rw[m,P];lia
  have:=M.two q (by lia)
  by_cases X:q=x
  .rw[X,lx];rw[X]at this;lia
  by_cases U:q=y
  .rw[U,ly];rw[U]at this;lia
  rw[B q J m X U];exact this
 .have hq':q<s.k+1+3:=r
  refine⟨?_,by rw[M7 R r];simp⟩
  by_cases m:q=s.k+3
  .subst m;simp only[S.step,ex,Bz,B7];exact hx
  .simp only[S.step];rw[C2 m];exact(M.o0 q R (by lia)).1
 .show((List.range (s.k+1+3)).map λq=>((s.step a b).row q).length).sum+12=6*(s.k+1+3)
  have sc:=bW4 (n:=s.k+1+3) (f:=λq=>((s.step a b).row q).length) (g:=λq=>(s.row q).length) (l:=[2,s.k+3,x,y]) (by
   have:=E.v2
   simp only[Aa5,Aa1,Ac2,or_false,not_or,List.nodup_nil,not_false_eq_true,and_true];exact⟨⟨by lia,Ne.symm f2,Ne.symm f3⟩,⟨Ne.symm f4,Ne.symm f5⟩,f1⟩) (by
   intro q r;simp only[Aa1,Ac2,or_false]at r
   lia) (by
   intro q r Y;simp only[Aa1,Ac2,or_false,not_or]at Y;exact B q Y.1 Y.2.1 Y.2.2.1 Y.2.2.2)
  simp only[Ac7,Dq,List.sum_cons,List.sum_nil]at sc;have e:((List.range (s.k+1+3)).map λq=>(s.row q).length).sum=((List.range (s.k+3)).map λq=>(s.row q).length).sum:=by
   rw[show s.k+1+3=(s.k+3)+1 by lia,Bd,Ad2,List.sum_append]
   simp only[Ac7,Dq,List.sum_cons,List.sum_nil,N]
   lia
  have:=M.sum
  rw[F,P,lx,ly,g2,N,e]at sc
  lia
theorem dB3 {s:S}(I:bM0 s)(M:bP7 s):Good (s.k+3) s.row where
 nd:=I.nd
 self:=I.self
 tri:=I.tri
 lt:=I.lt
 hi:=λq h=>bL3 h
 two:=M.two
 out:=by
  obtain⟨p,m⟩:=I.pe;obtain⟨h,g⟩:=I.he;rw[Y4,m,g];unfold adj
  have:(p++[0]).reverse++(h++[1])++((p++[0]).reverse++(h++[1])).take 1=(0::p.reverse++h)++1::[0]:=by simp
  rw[this,F4,E3];exact .inr (.inl ⟨rfl,rfl⟩)
 conn:=λR y z q U=>by
  have r:∀b∈s.row 0,R b:=λb e=>z 0 b y e
  have N:(1:Nat)∈s.row 0:=by rw[aC5];simp
  have Q:(2:Nat)∈s.row 0:=by rw[aC5];simp
  have sym:∀p q,q∈s.row p->p∈s.row q:=λp q h=>by
   obtain⟨b,e⟩:=bQ7 h;exact(M4 (I.tri _ _ _ e)).2
  induction q using Nat.strongRecOn with
  | _ q J=>
   by_cases X:3<=q
   .obtain⟨h1,Y⟩:=M.o0 q X U;exact z _ _ (J _ h1 (by lia)) (sym _ _ Y)
   .have:q=0\/q=1\/q=2:=by lia
    rcases this with rfl | rfl | rfl
    .exact y
    .exact r 1 N
    .exact r 2 Q
 sum:=M.sum
 three:=by lia
structure Nm (n:Nat)(f:Nat->Nat):Prop where
 lt:∀v,v<n->f v<n
 inj:∀v w,v<n->w<n->f v=f w->v=w
 c0:f 0=0
 c1:f 1=1
 c2:f 2=2
theorem aO9 {l:AB}(r:l.Nodup):∀{m:AB},(∀x∈l,x∈m)->l.length<=m.length:=by
 induction l with
 | nil=>intro m _;simp
 | cons a l z=>
  intro m h;have nd':=Aa5.mp r;have e:a∈m:=h a (by simp)
  have:=z nd'.2 (m:=m.erase a) λx y=>(List.mem_erase_of_ne (by rintro rfl;exact nd'.1 y)).mpr (h x (by simp[y]))
  have g:=Cv e
  have:=Dd e
  simp only[Aw]
  lia
theorem Nm.surj {n:Nat}{f:Nat->Nat}(h:Nm n f)(q:Nat)(U:q<n):∃v,v<n/\f v=q:=by
 have J:((List.range n).map f).Nodup:=by
  rw[Ac6,Ae0];refine Cw ?_ (Ac6.mp Cs);intro a b s Y r e;exact r (h.inj a b (Ab5.mp s) (Ab5.mp Y) e)
 have k:(List.range n).map f ⊆ List.range n:=λx z=>by
  obtain⟨v,g,rfl⟩:=Aa8.mp z;exact Ab5.mpr (h.lt v (Ab5.mp g))
 have:q∈(List.range n).map f:=Classical.byContradiction λX=>by
  have y:=Ab5.mpr U
  have:=aO9 J (m:=(List.range n).erase q) λx z=>(List.mem_erase_of_ne (by rintro rfl;exact X z)).mpr (k z)
  have M:=Cv y
  have:=Dd y
  simp only[Aa3,Bo]at *
  lia
 obtain⟨v,g,e⟩:=Aa8.mp this;exact⟨v,Ab5.mp g,e⟩
theorem Good.named {n:Nat}{r r':Nat->AB}{f:Nat->Nat}(G:Good n r)(F:Nm n f)(h:∀v,v<n->r' (f v)=G4 ((r v).map f))(M:∀q,n<=q->r' q=[]):Good n r':=by
 have cT2:∀v,v<n->∀x y,adj (r' (f v)) x y↔∃a b,x=f a/\y=f b/\adj (r v) a b:=λv z x y=>by rw[h v z,cK9,dJ3]
 have k:∀v,v<n->∀x,x∈r' (f v)↔∃a,a∈r v/\x=f a:=λv z x=>by
  rw[h v z,begun_mem,Aa8];exact⟨λ⟨a,h1,Q⟩=>⟨a,h1,Q.symm⟩,λ⟨a,h1,Q⟩=>⟨a,h1,Q.symm⟩⟩
 have N:∀q,n<=q\/∃v,v<n/\f v=q:=λq=>by
  by_cases g:n<=q
  .exact .inl g
  .exact .inr (F.surj q (by lia))
 have len:∀v,v<n->(r' (f v)).length=(r v).length:=λv z=>by rw[h v z,bI9,Aa3]
 refine⟨λq=>?_,λq=>?_,λq a b m=>?_,λq p hp=>?_,M,λq g=>?_,?_,λR P hR q g=>?_,?_,G.three⟩
 .rcases N q with g | ⟨v,z,rfl⟩
  .rw[M q g];simp
  .rw[h v z,bR9,Ac6,Ae0];refine Cw ?_ (Ac6.mp (G.nd v));intro a b s Y X e;exact X (F.inj a b (G.lt v a s) (G.lt v b Y) e)
 .rcases N q with g | ⟨v,z,rfl⟩
  .rw[M q g];simp
  .intro hm;obtain⟨a,s,e⟩:=(k v z _).mp hm;exact G.self v (F.inj v a z (G.lt v a s) e▸s)
 .rcases N q with g | ⟨v,z,rfl⟩
  .rw[M q g]at m;exact m.elim
  .obtain⟨c,d,rfl,rfl,J⟩:=(cT2 v z _ _).mp m;exact(cT2 c (G.lt v c (M4 J).1) _ _).mpr ⟨d,v,rfl,rfl,G.tri _ _ _ J⟩
 .rcases N q with g | ⟨v,z,rfl⟩
  .rw[M q g]at hp;exact absurd hp (by simp)
  .obtain⟨a,s,rfl⟩:=(k v z _).mp hp;exact F.lt a (G.lt v a s)
 .obtain⟨v,z,rfl⟩:=F.surj q g;rw[len v z];exact G.two v z
 .have:=G.three
  have:=(cT2 2 (by lia) 1 0).mpr ⟨1,0,F.c1.symm,F.c0.symm,G.out⟩
  rwa [F.c2]at this
 .obtain⟨v,z,rfl⟩:=F.surj q g
  have:=G.three
  refine G.conn (λv=>v<n->R (f v)) (λ_=>by rw[F.c0];exact P) (λa b s Y hbn=>?_) v z z
  by_cases U:a<n
  .exact hR _ _ (s U) ((k a U _).mpr ⟨b,Y,rfl⟩)
  .rw[G.hi a (by lia)]at Y;exact absurd Y (by simp)
 .have p:((List.range n).map f).Perm (List.range n):=by
   refine(List.perm_ext_iff_of_nodup ?_ Cs).mpr λq=>?_
   .rw[Ac6,Ae0];refine Cw ?_ (Ac6.mp Cs);intro a b s Y X e;exact X (F.inj a b (Ab5.mp s) (Ab5.mp Y) e)
   .constructor
    .intro g;obtain⟨v,z,rfl⟩:=Aa8.mp g;exact Ab5.mpr (F.lt v (Ab5.mp z))
    .intro g;obtain⟨v,z,rfl⟩:=F.surj q (Ab5.mp g);exact Aa8.mpr ⟨v,Ab5.mpr z,rfl⟩
  have D:=(p.map λq=>(r' q).length).sum_nat
  have B:((List.range n).map f).map (λq=>(r' q).length)=(List.range n).map λv=>(r v).length:=by
   rw[Ae2];exact Ax λv z=>len v (Ab5.mp z)
  rw[B]at D;rw[<- D];exact G.sum
def pv (F:Nat->Nat):Nat->Nat
 | 0=>0
 | i+1=>F i
def gst (F G:Nat->Nat):Nat->S
 | 0=>S.first
 | i+1=>(gst F G i).step (F i-pv F i) (G i-pv G i)
structure Rws (F G:Nat->Nat)(m:Nat):Prop where
 f1:∀i,i<m->pv F i<=F i
 f2:∀i,i<m->F i<=i
 g1:∀i,i<m->pv G i<=G i
 g2:∀i,i<m->G i<=F i
structure eK3 (F G:Nat->Nat)(i:Nat):Prop where
 inv:bM0 (gst F G i)
 more:bP7 (gst F G i)
 k:(gst F G i).k=i
 p:(gst F G i).path.length+pv F i=1+i
 h:(gst F G i).heap.length+pv G i=1+pv F i
 le:pv F i<=i
 le2:pv G i<=pv F i
theorem E1 {F G:Nat->Nat}{m:Nat}(R:Rws F G m):∀i,i<=m->eK3 F G i
 | 0,_=>⟨bV8,bU1,rfl,rfl,rfl,Aa7 _,Aa7 _⟩
 | i+1,hi=>by
  have I:=E1 R i (by lia)
  have X:=R.f1 i (by lia)
  have U:=R.f2 i (by lia)
  have J:=R.g1 i (by lia)
  have g:=R.g2 i (by lia)
  have h1:=I.p
  have M:=I.h
  have e:F i-pv F i<(gst F G i).path.length:=by lia
  have z:G i-pv G i<(F i-pv F i)+(gst F G i).heap.length:=by lia
  obtain⟨x,Q,y,N,s,Y,E,r⟩:=cE4 I.inv e z;refine⟨r,cK8 I.inv I.more e z,?_,?_,?_,?_,g⟩
  .show(gst F G i).k+1=i+1
   rw[I.k]
  .show(((gst F G i).k+3)::(gst F G i).path.drop (F i-pv F i)).length+F i=1+(i+1)
   rw[Aw,Ay]
   lia
  .show(((gst F G i).h1 (F i-pv F i)).drop (G i-pv G i)).length+G i=1+F i
   rw[Ay];unfold S.h1;rw[Ab7,Ae1,Ad1]
   lia
  .show F i<=i+1
   lia
theorem aY8 {F G:Nat->Nat}{m:Nat}(R:Rws F G m):Good (m+3) (gst F G m).row:=by
 have I:=E1 R m (Aa7 _)
 have:=dB3 I.inv I.more
 rwa [I.k]at this
inductive Wy (o:Nat->Nat):Nat->AB->Prop where
 | corner {q:Nat}:q<3->Wy o q [q]
 | step {q:Nat} {l:AB}:3<=q->Wy o (o q) l->Wy o q (q::l)
theorem S6 (F G:Nat->Nat):∀i,(gst F G i).k=i
 | 0=>rfl
 | i+1=>by show(gst F G i).k+1=i+1;rw[S6 F G i]
def pa (F G:Nat->Nat)(v:Nat):AB:=(gst F G (v-2)).path.tail
def hp (F G:Nat->Nat)(v:Nat):AB:=(gst F G (v-2)).heap
theorem Y0 (F G:Nat->Nat)(i:Nat):(gst F G (i+1)).path=(i+3)::pa F G (i+3):=by
 show((gst F G i).k+3)::(gst F G i).path.drop (F i-pv F i)=_
 rw[S6];rfl
theorem cE0 (F G:Nat->Nat)(i:Nat):pa F G (i+3)=(gst F G i).path.drop (F i-pv F i):=rfl
theorem dT3 (F G:Nat->Nat)(i:Nat):(gst F G (i+1)).o0 (i+3)=(pa F G (i+3)).headD 0:=by
 show put (gst F G i).o0 ((gst F G i).k+3) _ (i+3)=_
 rw[S6,B7];rfl
theorem dQ7 (F G:Nat->Nat)(i:Nat):(gst F G (i+1)).o1 (i+3)=(hp F G (i+3)).headD 0:=by
 show put (gst F G i).o1 ((gst F G i).k+3) _ (i+3)=_
 rw[S6,B7];rfl
theorem dM3 (F G:Nat->Nat)(i:Nat):∀j,i<j->(gst F G j).o0 (i+3)=(pa F G (i+3)).headD 0
 | 0,h=>by lia
 | j+1,h=>by
  by_cases e:i=j
  .subst e;exact dT3 F G i
  .rw[<- dM3 F G i j (by lia)]
   show put (gst F G j).o0 ((gst F G j).k+3) _ (i+3)=_
   rw[S6,C2 (by lia)]
theorem dN7 (F G:Nat->Nat)(i:Nat):∀j,i<j->(gst F G j).o1 (i+3)=(hp F G (i+3)).headD 0
 | 0,h=>by lia
 | j+1,h=>by
  by_cases e:i=j
  .subst e;exact dQ7 F G i
  .rw[<- dN7 F G i j (by lia)]
   show put (gst F G j).o1 ((gst F G j).k+3) _ (i+3)=_
   rw[S6,C2 (by lia)]
theorem dN8 (F G:Nat->Nat):∀j q,3<=q->q<j+3->(gst F G j).o2 q=2\/(q<(gst F G j).o2 q/\(gst F G j).o2 q<j+3)
 | 0,q,h,h'=>by lia
 | j+1,q,h,h'=>by
  have e:(gst F G (j+1)).o2 q=if q=(gst F G j).k+3 then 2 else if q∈((gst F G j).h1 (F j-pv F j)).take (G j-pv G j) then(gst F G j).k+3 else(gst F G j).o2 q:=rfl
  rw[e,S6];by_cases y:q=j+3
  .simp[y]
  .rw[Ac y]
   have:=dN8 F G j q h (by lia)
   split
   .lia
   .lia
def Ch (F G:Nat->Nat)(l:AB):Prop:=∀u x r,l=u++x::r->3<=x->r=pa F G x
theorem Ch.drop {F G:Nat->Nat}{l:AB}(h:Ch F G l)(a:Nat):Ch F G (l.drop a):=λu x r e y=>by
 refine h (l.take a++u) x r ?_ y;rw[Ad7,<- e,Ad3]
theorem cF5 (F G:Nat->Nat):∀i,Ch F G (gst F G i).path
 | 0=>by
  intro u x r e z;have e:[0]=u++x::r:=e;cases u with
  | nil=>simp at e;lia
  | cons y u=>simp at e
 | i+1=>by
  intro u x r e z;rw[Y0]at e;cases u with
  | nil=>
   simp at e
   rw[<- e.1,<- e.2]
  | cons y u=>
   simp only[Ab6,Ce]at e;exact(cF5 F G i).drop _ u x r (by rw[<- cE0];exact e.2) z
section
variable {F G:Nat->Nat}{m:Nat}
structure At (F G:Nat->Nat)(i:Nat):Prop where
 pe:∃p,pa F G (i+3)=p++[0]
 he:∃h,hp F G (i+3)=h++[1]
 nd:((i+3)::(pa F G (i+3)++hp F G (i+3))).Nodup
 lt:∀x,x∈pa F G (i+3)\/x∈hp F G (i+3)->x<i+3/\x≠2
theorem aS7 (R:Rws F G m){i:Nat}(hi:i<m):At F G i:=by
 have I:=E1 R (i+1) (by lia)
 have r:=I.inv.nd 2
 rw[Y4,Y0]at r;have lt:=I.inv.lt 2;rw[Y4,Y0,I.k]at lt;have g:=I.inv.bd;obtain⟨p,e⟩:=I.inv.pe;obtain⟨h,s⟩:=I.inv.he;rw[Y0]at e;have nd':((i+3)::(pa F G (i+3)++hp F G (i+3))).Nodup:=by
  have z:(((i+3)::pa F G (i+3)).reverse++(gst F G (i+1)).heap).Perm ((i+3)::(pa F G (i+3)++hp F G (i+3))):=by
   show(((i+3)::pa F G (i+3)).reverse++(gst F G (i+1)).heap).Perm (((i+3)::pa F G (i+3))++(gst F G (i+1)).heap)
   exact(List.reverse_perm _).append_right _
  exact z.nodup_iff.mp r
 refine⟨?_,⟨h,s⟩,nd',λx hx=>?_⟩
 .cases p with
  | nil=>simp at e
  | cons y p=>simp only[Ab6,Ce]at e;exact⟨p,e.2⟩
 .have h1:=lt x (by
   rcases hx with hx | hx
   .simp[hx]
   .exact Ac1 _ hx)
  have Y:=(g x (by
   rcases hx with hx | hx
   .left;rw[Y0];simp[hx]
   .right;exact hx)).1
  have X:x≠i+3:=by
   rintro rfl
   have:=(Aa5.mp nd').1
   exact this (Aa0.mpr hx)
  lia
theorem cR8 (R:Rws F G m){i:Nat}(hi:i<m):∃r,pa F G (i+3)=(gst F G m).o0 (i+3)::r:=by
 rw[dM3 F G i m hi];obtain⟨p,e⟩:=(aS7 R hi).pe;cases h:pa F G (i+3) with
 | nil=>rw[h]at e;simp at e
 | cons x r=>exact⟨r,rfl⟩
theorem cS1 (R:Rws F G m){i:Nat}(hi:i<m):∃r,hp F G (i+3)=(gst F G m).o1 (i+3)::r:=by
 rw[dN7 F G i m hi];obtain⟨p,e⟩:=(aS7 R hi).he;cases h:hp F G (i+3) with
 | nil=>rw[h]at e;simp at e
 | cons x r=>exact⟨r,rfl⟩
theorem eJ6 (R:Rws F G m):∀v,3<=v->v<m+3->Wy (gst F G m).o0 v (v::pa F G v):=by
 intro v;induction v using Nat.strongRecOn with
 | ind v J=>
  intro X M;obtain⟨i,rfl⟩:∃i,v=i+3:=⟨v-3,by lia⟩
  have hi:i<m:=by lia
  have A:=aS7 R hi
  obtain⟨r,e⟩:=cR8 R hi;generalize s:(gst F G m).o0 (i+3)=x at e;refine .step X ?_;rw[s,e];have N:=A.lt x (.inl (by rw[e];simp))
  have z:=A.nd
  obtain⟨p,g⟩:=A.pe;obtain⟨h,U⟩:=A.he;by_cases c:x<3
  .have:r=[]:=by
    have Y:x=0:=by
     have:x≠1:=by
      rintro rfl;rw[e,U]at z;simp at z
     lia
    subst Y;rw[e]at g z;cases p with
    | nil=>simpa using g
    | cons y p=>
     simp only[Ab6,Ce]at g;rw[g.2]at z;simp at z
   rw[this];exact .corner c
  .have k:=(cF5 F G i).drop (F i-pv F i)
   rw[<- cE0,e]at k;rw[k [] x r rfl (by lia)]
   exact J x (by lia) (by lia) (by lia)
theorem eL1 (R:Rws F G m):∀v,3<=v->v<m+3->∃t,Wy (gst F G m).o1 v (v::t)/\(v::t).Nodup/\(∀x∈t,x<v/\x≠2/\x∉pa F G v)/\∃p,v::t=p++[1]:=by
 intro v;induction v using Nat.strongRecOn with
 | ind v ih=>
  intro J hv;obtain⟨i,rfl⟩:∃i,v=i+3:=⟨v-3,by lia⟩
  have hi:i<m:=by lia
  have A:=aS7 R hi
  obtain⟨r,e⟩:=cS1 R hi;generalize U:(gst F G m).o1 (i+3)=x at e;have Y:=A.lt x (.inr (by rw[e];simp))
  have N:=A.nd
  have X:x∉pa F G (i+3):=λk=>by
   rw[e]at N
   have:=(Aa4.mp (Aa5.mp N).2).2.2 x k x (by simp)
   exact this rfl
  obtain⟨p,pe⟩:=A.pe;by_cases c:x<3
  .have x1:x=1:=by
    have:x≠0:=by
     rintro rfl;exact X (by rw[pe];simp)
    lia
   subst x1;refine⟨[1],.step J (by rw[U];exact .corner c),by simp,λx s=>?_,[i+3],rfl⟩
   simp at s;subst s
   exact⟨Y.1,by lia,X⟩
  .obtain⟨t,w,nt,M,q,P⟩:=ih x (by lia) (by lia) (by lia)
   refine⟨x::t,.step J (by rw[U];exact w),?_,λy g=>?_,(i+3)::q,by rw[P];rfl⟩
   .refine Aa5.mpr ⟨λk=>?_,nt⟩
    rcases Aa1.mp k with z | z
    .lia
    .have:=(M _ z).1;lia
   .rcases Aa1.mp g with z | z
    .subst z;exact⟨Y.1,Y.2,X⟩
    .obtain⟨Q,D,B⟩:=M y z;refine⟨by lia,D,λk=>B ?_⟩
     obtain⟨j,rfl⟩:∃j,x=j+3:=⟨x-3,by lia⟩
     exact sub (F:=F) (G:=G) (j:=j) (i:=i) (by lia) y (by rw[<- cE0];exact k) Q
where
 sub {F G:Nat->Nat} {j:Nat}:∀{i:Nat},j<i->∀y,y∈(gst F G i).path.drop (F i-pv F i)->y<j+3->y∈pa F G (j+3)
  | 0,h,_,_,_=>by lia
  | i+1,h,y,g,hl=>by
   have g:=Bx g
   rw[Y0]at g;rcases Aa1.mp g with z | z
   .lia
   .by_cases e:j=i
    .subst e;exact z
    .exact sub (i:=i) (by lia) y (by rw[<- cE0];exact z) hl
theorem eL5 (R:Rws F G m):∀n v,m+3-v=n->3<=v->v<m+3->∃t,Wy (gst F G m).o2 v (v::t)/\(v::t).Nodup/\(∀x∈t,(v<x/\x<m+3)\/x=2)/\∃p,v::t=p++[2]:=by
 intro n;induction n using Nat.strongRecOn with
 | ind n M=>
  intro v N r X;rcases dN8 F G m v r X with e | ⟨h1,k⟩
  .refine⟨[2],.step r (by rw[e];exact .corner (by lia)),by simp;lia,λx U=>.inr (by simpa using U),[v],rfl⟩
  .obtain⟨t,w,nt,g,q,Y⟩:=M (m+3-(gst F G m).o2 v) (by lia) ((gst F G m).o2 v) rfl (by lia) k
   refine⟨(gst F G m).o2 v::t,.step r w,?_,λy J=>?_,v::q,by rw[Y];rfl⟩
   .refine Aa5.mpr ⟨λs=>?_,nt⟩
    rcases Aa1.mp s with z | z
    .lia
    .rcases g _ z with a | a <;> lia
   .rcases Aa1.mp J with z | z
    .exact .inl (by lia)
    .rcases g _ z with a | a
     .exact .inl (by lia)
     .exact .inr a
theorem dI0 (R:Rws F G m){v:Nat}(s:3<=v)(Y:v<m+3):∃t0 t1 t2:AB,Wy (gst F G m).o0 v (v::t0)/\Wy (gst F G m).o1 v (v::t1)/\Wy (gst F G m).o2 v (v::t2) /\
  (∃p,v::t0=p++[0])/\(∃p,v::t1=p++[1])/\(∃p,v::t2=p++[2])/\(v::(t0++(t1++t2))).Nodup/\∀x∈t0++(t1++t2),x<m+3:=by
 obtain⟨i,rfl⟩:∃i,v=i+3:=⟨v-3,by lia⟩
 have A:=aS7 R (i:=i) (by lia)
 have w0:=eJ6 R _ s Y
 obtain⟨t1,w1,D,g,J⟩:=eL1 R _ s Y;obtain⟨t2,w2,B,k,M⟩:=eL5 R _ _ rfl s Y;obtain⟨p,P⟩:=A.pe;have Q:(pa F G (i+3)).Nodup:=(Aa4.mp (Aa5.mp A.nd).2).1;have U:∀x∈pa F G (i+3),x<i+3/\x≠2:=λx r=>A.lt x (.inl r)
 refine⟨_,t1,t2,w0,w1,w2,⟨(i+3)::p,by rw[P];rfl⟩,J,M,Aa5.mpr ⟨λN=>?_,Aa4.mpr ⟨Q,Aa4.mpr ⟨(Aa5.mp D).2,(Aa5.mp B).2,λx r y X=>?_⟩,λx r y X=>?_⟩⟩,λx r=>?_⟩
 .rcases Aa0.mp N with z | z
  .have:=U _ z;lia
  .rcases Aa0.mp z with z | z
   .have:=g _ z;lia
   .have:=k _ z;lia
 .have b1:=g x r
  have b2:=k y X
  lia
 .have b0:=U x r
  rcases Aa0.mp X with z | z
  .intro e;subst e;exact(g x z).2.2 r
  .have:=k y z;lia
 .rcases Aa0.mp r with z | z
  .have:=U _ z;lia
  .rcases Aa0.mp z with z | z
   .have:=g _ z;lia
   .have:=k _ z;lia
end
structure Bt (F G:Nat->Nat)(m:Nat)(f:Nat->Nat)(d t:AA):Prop where
 R:Rws F G m
 N:Nm (m+3) f
 dl:d.length=m+3
 dr:∀v,v<m+3->d[f v]? = some (G4 (((gst F G m).row v).map f))
 tl:t.length=m
 tr:∀v,3<=v->v<m+3->t[f v-3]? = some [f ((gst F G m).o0 v),f ((gst F G m).o1 v),f ((gst F G m).o2 v)]
def og (t:AA)(c q:Nat):Nat:=((t[q-3]?.getD []))[c]?.getD 0
theorem Nm.lo {n:Nat}{f:Nat->Nat}(N:Nm n f)(h:3<=n){q:Nat}(y:q<n):f q<3↔q<3:=by
 constructor
 .intro hl;have z:=N.c0;have r:=N.c1;have g:=N.c2;rcases (show f q=0\/f q=1\/f q=2 by lia) with e | e | e
  .have:=N.inj q 0 y (by lia) (by lia);lia
  .have:=N.inj q 1 y (by lia) (by lia);lia
  .have:=N.inj q 2 y (by lia) (by lia);lia
 .intro hl;have z:=N.c0;have r:=N.c1;have g:=N.c2;rcases (show q=0\/q=1\/q=2 by lia) with e | e | e <;> subst e <;> lia
theorem Wy.map {o o':Nat->Nat}{f:Nat->Nat}{n:Nat}(e:∀q,q<n->(f q<3↔q<3))(ho:∀q,3<=q->q<n->o' (f q)=f (o q)){q:Nat}{l:AB}(w:Wy o q l)(y:∀x∈l,x<n):Wy o' (f q) (l.map f):=by
 induction w with
 | @corner q h=>exact .corner ((e q (y q (by simp))).mpr h)
 | @step q l h w ih=>
  have z:=y q (by simp)
  refine .step ?_ ?_
  .have:=e q z;lia
  .rw[ho q h z];exact ih λx r=>y x (by simp[r])
theorem aN7 {f:Nat->Nat}{n:Nat}(inj:∀v w,v<n->w<n->f v=f w->v=w){l:AB}(k:l.Nodup)(z:∀x∈l,x<n):(l.map f).Nodup:=by
 rw[Ac6,Ae0];exact Cw (λ{a b} r g y e=>y (inj a b (z a r) (z b g) e)) (Ac6.mp k)
theorem Bt.ways {F G:Nat->Nat}{m:Nat}{f:Nat->Nat}{d t:AA}(B:Bt F G m f d t){q:Nat}(h3:3<=q)(s:q<m+3):∃t0 t1 t2:AB,Wy (og t 0) q (q::t0)/\Wy (og t 1) q (q::t1)/\Wy (og t 2) q (q::t2) /\
  (∃p,q::t0=p++[0])/\(∃p,q::t1=p++[1])/\(∃p,q::t2=p++[2])/\(q::(t0++(t1++t2))).Nodup/\∀x∈t0++(t1++t2),x<m+3:=by
 obtain⟨v,g,rfl⟩:=B.N.surj q s;have v3:3<=v:=by have:=B.N.lo (by lia) g;lia
 obtain⟨t0,t1,t2,w0,w1,w2,⟨p0,J⟩,⟨p1,M⟩,⟨p2,Q⟩,nd,lt⟩:=dI0 B.R v3 g;have r:∀q,q<m+3->(f q<3↔q<3):=λq s=>B.N.lo (by lia) s
 have Y:∀q,3<=q->q<m+3->og t 0 (f q)=f ((gst F G m).o0 q):=λq h k=>by unfold og;rw[B.tr q h k];rfl
 have X:∀q,3<=q->q<m+3->og t 1 (f q)=f ((gst F G m).o1 q):=λq h k=>by unfold og;rw[B.tr q h k];rfl
 have U:∀q,3<=q->q<m+3->og t 2 (f q)=f ((gst F G m).o2 q):=λq h k=>by unfold og;rw[B.tr q h k];rfl
 have P:∀x∈v::t0,x<m+3:=λx e=>by rcases Aa1.mp e with rfl | z;exact g;exact lt x (by simp[z])
 have l1:∀x∈v::t1,x<m+3:=λx e=>by rcases Aa1.mp e with rfl | z;exact g;exact lt x (by simp[z])
 have l2:∀x∈v::t2,x<m+3:=λx e=>by rcases Aa1.mp e with rfl | z;exact g;exact lt x (by simp[z])
 have la:∀x∈v::(t0++(t1++t2)),x<m+3:=λx e=>by rcases Aa1.mp e with rfl | z;exact g;exact lt x z
 refine⟨t0.map f,t1.map f,t2.map f,w0.map r Y P,w1.map r X l1,w2.map r U l2,⟨p0.map f,?_⟩,⟨p1.map f,?_⟩,⟨p2.map f,?_⟩,?_,λx e=>?_⟩
 .rw[<- Ac7,J];simp[B.N.c0]
 .rw[<- Ac7,M];simp[B.N.c1]
 .rw[<- Ac7,Q];simp[B.N.c2]
 .have:=aN7 B.N.inj nd la
  simpa using this
 .rw[<- Ad2,<- Ad2]at e;obtain⟨y,D,rfl⟩:=Aa8.mp e;exact B.N.lt y (lt y D)
def wlk (ch:Nat->AB):Nat->AB->AB->AB
 | 0,w,_=>w
 | _+1,w,[]=>w
 | f+1,w,x::r=>wlk ch f (w++[x]) (ch x++r)
structure dD2 (n r:Nat)(π:Nat->Nat)(ch:Nat->AB)(rk:Nat->Nat):Prop where
 nd:∀p,(ch p).Nodup
 mem:∀p q,q∈ch p↔3<=q/\q<n/\π q=p
 lt:∀q,3<=q->q<n->rk (π q)<rk q/\π q<n
 root:∀q,3<=q->q<n->π q<3->π q=r
 r3:r<3
structure cN2 (n r:Nat)(π:Nat->Nat)(w c:AB):Prop where
 nd:(w++c).Nodup
 lt:∀x∈w++c,3<=x/\x<n
 iff:∀q,3<=q->q<n->((π q=r\/π q∈w)↔q∈w++c)
section
variable {n r:Nat}{π:Nat->Nat}{ch:Nat->AB}{rk:Nat->Nat}
theorem bZ0 (T:dD2 n r π ch rk):cN2 n r π [] (ch r) where
 nd:=by simpa using T.nd r
 lt:=λx z=>by have:=(T.mem r x).mp (by simpa using z);exact⟨this.1,this.2.1⟩
 iff:=λq e y=>by simp[T.mem r q,e,y]
theorem cI3 (T:dD2 n r π ch rk){w c:AB}{x:Nat}(I:cN2 n r π w (x::c)):cN2 n r π (w++[x]) (ch x++c) where
 nd:=by
  have M:=I.lt x (by simp)
  have h1:(w++[x]++c).Nodup:=by simpa using I.nd
  have Y:∀q∈ch x,q∉w++[x]++c:=λq g J=>by
   obtain⟨a,b,e⟩:=(T.mem x q).mp g;have k:q∈w++x::c:=by simpa using J
   rcases (I.iff q a b).mpr k with z | z
   .have:=T.r3;lia
   .rw[e]at z
    have:=(Aa4.mp I.nd).2.2 x z x (by simp)
    exact this rfl
  have p:(w++[x]++(ch x++c)).Perm (ch x++(w++[x]++c)):=by
   rw[<- Ad7,<- Ad7];exact(Df).append_right _
  refine p.nodup_iff.mpr (Aa4.mpr ⟨T.nd x,h1,λa X b U e=>?_⟩)
  subst e;exact Y a X U
 lt:=λy hy=>by
  simp only[Aa0,Ad8]at hy;rcases hy with (hy | hy) | hy | hy
  .exact I.lt y (by simp[hy])
  .exact I.lt y (by simp[hy])
  .have:=(T.mem x y).mp hy;exact⟨this.1,this.2.1⟩
  .exact I.lt y (by simp[hy])
 iff:=λq s g=>by
  have:=I.iff q s g
  have m:=T.mem x q
  simp only[Aa0,Aa1,Ac2,or_false]at this ⊢;constructor
  .rintro (h | h | h)
   .rcases this.mp (.inl h) with z | z | z
    .exact .inl (.inl z)
    .exact .inl (.inr z)
    .exact .inr (.inr z)
   .rcases this.mp (.inr h) with z | z | z
    .exact .inl (.inl z)
    .exact .inl (.inr z)
    .exact .inr (.inr z)
   .exact .inr (.inl (m.mpr ⟨s,g,h⟩))
  .rintro ((h | h) | h | h)
   .rcases this.mpr (.inl h) with z | z
    .exact .inl z
    .exact .inr (.inl z)
   .rcases this.mpr (.inr (.inl h)) with z | z
    .exact .inl z
    .exact .inr (.inl z)
   .exact .inr (.inr (m.mp h).2.2)
   .rcases this.mpr (.inr (.inr h)) with z | z
    .exact .inl z
    .exact .inr (.inl z)
theorem bN2 {w c:AB}(I:cN2 n r π w c):w.length+c.length+3<=max n 3:=by
 have:=aO9 I.nd (m:=(List.range (n-3)).map (· + 3)) λx e=>by
  have:=I.lt x e
  exact Aa8.mpr ⟨x-3,Ab5.mpr (by lia),by lia⟩
 simp at this
 lia
end
section
variable {F G:Nat->Nat}{m:Nat}{f:Nat->Nat}{d t:AA}
def trn (d:AA)(q:Nat):AB:=d[q]?.getD []
theorem Bt.good (B:Bt F G m f d t):Good (m+3) (trn d):=by
 refine Good.named (aY8 B.R) B.N (λv y=>?_) λq e=>?_
 .unfold trn;rw[B.dr v y];rfl
 .unfold trn;rw[Ad6 (by rw[B.dl];exact e)];rfl
def oc (s:S):Nat->Nat->Nat
 | 0=>s.o0
 | 1=>s.o1
 | _=>s.o2
theorem Bt.og (B:Bt F G m f d t){c v:Nat}(r:c<3)(y:3<=v)(z:v<m+3):og t c (f v)=f (oc (gst F G m) c v):=by
 unfold TT.og;rw[B.tr v y z];rcases (show c=0\/c=1\/c=2 by lia) with e | e | e <;> subst e <;> rfl
theorem aR1 {s:S}{c v:Nat}(r:c<3)(y:3<=v)(z:v<s.k+3):oc s c v∈s.row v:=by
 rw[M7 y z];rcases (show c=0\/c=1\/c=2 by lia) with e | e | e <;> subst e <;> simp[oc]
theorem Bt.out_mem (B:Bt F G m f d t){c q:Nat}(y:c<3)(Y:3<=q)(s:q<m+3):TT.og t c q∈trn d q/\TT.og t c q<m+3:=by
 obtain⟨v,e,rfl⟩:=B.N.surj q s;have r:3<=v:=by have:=B.N.lo (by lia) e;lia
 have g:(gst F G m).k=m:=S6 F G m
 have z:TT.og t c (f v)∈trn d (f v):=by
  unfold trn;rw[B.dr v e,B.og y r e];exact begun_mem.mpr (Aa8.mpr ⟨_,aR1 y r (by rw[g];exact e),rfl⟩)
 exact⟨z,B.good.lt _ _ z⟩
theorem Bt.mem_out (B:Bt F G m f d t){c q:Nat}(y:c<3)(e:3<=q)(z:q<m+3):q∈trn d (TT.og t c q):=B.good.sym (B.out_mem y e z).1
theorem Bt.way (B:Bt F G m f d t){c q:Nat}(P:c<3)(Y:3<=q)(X:q<m+3):∃tl,Wy (TT.og t c) q (q::tl)/\(∃p,q::tl=p++[c])/\(q::tl).Nodup/\∀x∈tl,x<m+3:=by
 obtain⟨J,M,N,R,Q,D,g,k,s,U,lt⟩:=B.ways Y X;have nd':=Aa5.mp U;have z:=Aa4.mp nd'.2;have r:=Aa4.mp z.2.1;rcases (show c=0\/c=1\/c=2 by lia) with e | e | e <;> subst e
 .exact⟨J,R,g,Aa5.mpr ⟨λh=>nd'.1 (by simp[h]),z.1⟩,λx y=>lt x (by simp[y])⟩
 .exact⟨M,Q,k,Aa5.mpr ⟨λh=>nd'.1 (by simp[h]),r.1⟩,λx y=>lt x (by simp[y])⟩
 .exact⟨N,D,s,Aa5.mpr ⟨λh=>nd'.1 (by simp[h]),r.2.1⟩,λx y=>lt x (by simp[y])⟩
def tk (F G:Nat->Nat)(i:Nat):AB:=((gst F G i).h1 (F i-pv F i)).take (G i-pv G i)
theorem cP8 (F G:Nat->Nat):∀j x,(gst F G j).o2 x≠2->∃i,i<j/\(gst F G j).o2 x=i+3/\x∈tk F G i
 | 0,x,h=>by exact absurd rfl h
 | j+1,x,h=>by
  have e:(gst F G (j+1)).o2 x=if x=(gst F G j).k+3 then 2 else if x∈tk F G j then(gst F G j).k+3 else(gst F G j).o2 x:=rfl
  rw[e,S6]at h ⊢;by_cases c:x=j+3
  .rw[Ae c]at h;exact absurd rfl h
  .rw[Ac c]at h ⊢;by_cases y:x∈tk F G j
   .rw[Ae y];exact⟨j,by lia,rfl,y⟩
   .rw[Ac y]at h ⊢;obtain⟨i,a,b,c⟩:=cP8 F G j x h;exact⟨i,by lia,b,c⟩
theorem cS3 (R:Rws F G m){i:Nat}(hi:i<m){x:Nat}(h:x∈tk F G i):x∉pa F G (i+3)/\x∉hp F G (i+3):=by
 have I:=E1 R i (by lia)
 have g:=I.inv.nd 2
 rw[Y4]at g;have e:((gst F G i).path++(gst F G i).heap).Nodup:=((List.reverse_perm _).append_right _).nodup_iff.mp g;have k:(gst F G i).path=(gst F G i).path.take (F i-pv F i)++(gst F G i).path.drop (F i-pv F i):=(Ad3 _ _).symm;have s:hp F G (i+3)=((gst F G i).h1 (F i-pv F i)).drop (G i-pv G i):=rfl;have Y:((gst F G i).h1 (F i-pv F i)++(gst F G i).path.drop (F i-pv F i)).Nodup:=by
  unfold S.h1;have p:(((gst F G i).path.take (F i-pv F i)).reverse++(gst F G i).heap++(gst F G i).path.drop (F i-pv F i)).Perm ((gst F G i).path++(gst F G i).heap):=by
   conv=>rhs;rw[k]
   refine(((List.reverse_perm _).append_right _).append_right _).trans ?_;rw[Ad7,Ad7];exact Df.append_left _
  exact p.nodup_iff.mpr e
 have y:=Y
 rw[<- Ad3 (G i-pv G i) ((gst F G i).h1 (F i-pv F i)),Ad7]at y;have r:=(Aa4.mp y).2.2;constructor
 .intro z;exact r x h x (Ac1 _ z) rfl
 .intro z;exact r x h x (Aq _ z) rfl
theorem noback (R:Rws F G m){c v:Nat}(M:c<3)(U:3<=v)(J:v<m+3)(g:3<=oc (gst F G m) ((c+1) % 3) v):oc (gst F G m) c (oc (gst F G m) ((c+1) % 3) v)≠v:=by
 have y:∀q,3<=q->q<m+3->(gst F G m).o0 q<q:=λq a b=>by
  obtain⟨i,rfl⟩:∃i,q=i+3:=⟨q-3,by lia⟩
  obtain⟨r,e⟩:=cR8 R (i:=i) (by lia)
  exact((aS7 R (i:=i) (by lia)).lt _ (.inl (by rw[e];simp))).1
 have X:∀q,3<=q->q<m+3->(gst F G m).o1 q<q:=λq a b=>by
  obtain⟨i,rfl⟩:∃i,q=i+3:=⟨q-3,by lia⟩
  obtain⟨r,e⟩:=cS1 R (i:=i) (by lia)
  exact((aS7 R (i:=i) (by lia)).lt _ (.inr (by rw[e];simp))).1
 intro e;rcases (show c=0\/c=1\/c=2 by lia) with z | z | z <;> subst z
 .simp only[oc]at e g;have a:=X v U J;have b:=y ((gst F G m).o1 v) g (by lia)
  lia
 .simp only[oc]at e g;obtain⟨i,hi,k,s⟩:=cP8 F G m v (by lia)
  rw[k]at e;obtain⟨r,Y⟩:=cS1 R hi;refine(cS3 R hi s).2 ?_;rw[Y,e];simp
 .simp only[oc]at e g;have a:=y v U J;obtain⟨i,hi,k,s⟩:=cP8 F G m ((gst F G m).o0 v) (by lia)
  rw[k]at e;subst e;obtain⟨r,Y⟩:=cR8 R hi;refine(cS3 R hi s).1 ?_;rw[Y];simp
theorem Bt.noback (B:Bt F G m f d t){c p:Nat}(s:c<3)(M:3<=p)(hp:p<m+3)(J:3<=TT.og t ((c+1) % 3) p):TT.og t c (TT.og t ((c+1) % 3) p)≠p:=by
 have z:(c+1) % 3<3:=Nat.mod_lt _ (by lia)
 obtain⟨v,g,rfl⟩:=B.N.surj p hp;have Y:3<=v:=by have:=B.N.lo (by lia) g;lia
 have U:(gst F G m).k=m:=S6 F G m
 have y:oc (gst F G m) ((c+1) % 3) v<m+3:=by
  have:=(aY8 B.R).lt _ _ (aR1 z Y (by rw[U];exact g))
  exact this
 rw[B.og z Y g]at J ⊢;have X:3<=oc (gst F G m) ((c+1) % 3) v:=by have:=B.N.lo (by lia) y;lia
 rw[B.og s X y];intro e;have r:oc (gst F G m) c (oc (gst F G m) ((c+1) % 3) v)<m+3:=(aY8 B.R).lt _ _ (aR1 s X (by rw[U];exact y))
 exact TT.noback B.R s Y g X (B.N.inj _ _ r g e)
def P7 (t:AA)(c p:Nat):Nat:=if 3<=p then og t ((c+1) % 3) p else(c+1) % 3
def s9 (t:AA)(c p q:Nat):Bool:=decide (3<=q)&&decide (og t c q=p)
def chd (d t:AA)(c p:Nat):AB:=
 let r:=trn d p
 let a:=r.idxOf (P7 t c p)
 (r.drop (a+1)++r.take a).filter (s9 t c p)
theorem Bt.fst_mem (B:Bt F G m f d t){c p:Nat}(s:c<3)(hp:p<m+3)(h:3<=p\/p=c):P7 t c p∈trn d p:=by
 unfold P7;have r:(c+1) % 3<3:=Nat.mod_lt _ (by lia)
 by_cases y:3<=p
 .rw[Ae y];exact(B.out_mem r y hp).1
 .rw[Ac y];have e:p=c:=by lia
  subst e;have G:=B.good;have g:=(M4 G.out).1;have k:=(M4 G.out).2;rcases (show p=0\/p=1\/p=2 by lia) with z | z | z <;> subst z
  .exact(M4 (G.tri _ _ _ (G.tri _ _ _ G.out))).2
  .exact G.sym g
  .exact k
theorem Bt.chd_eq (B:Bt F G m f d t){c p:Nat}(z:c<3)(hp:p<m+3)(h:3<=p\/p=c) :
  ((trn d p).drop ((trn d p).idxOf (P7 t c p))++(trn d p).take ((trn d p).idxOf (P7 t c p))).filter (s9 t c p)=chd d t c p:=by
 have g:=B.fst_mem z hp h
 have r:=Cb.mpr g
 unfold chd;dsimp only;rw[Ao r,List.getElem_idxOf r,Ab6,List.filter_cons];rw[Ac];intro e;unfold s9 at e;simp only[Bc,Bj]at e;unfold P7 at e;by_cases y:3<=p
 .rw[Ae y]at e;exact B.noback z y hp e.1 e.2
 .rw[Ac y]at e
  have:(c+1) % 3<3:=Nat.mod_lt _ (by lia)
  lia
open Classical in
theorem Bt.tree (B:Bt F G m f d t){c:Nat}(r:c<3):∃rk,dD2 (m+3) c (TT.og t c) (λp=>if p<m+3/\(3<=p\/p=c) then chd d t c p else []) rk:=by
 have hw:∀q,3<=q->q<m+3->∃l,Wy (TT.og t c) q l:=λq a b=>by
  obtain⟨U,w,_⟩:=B.way r a b;exact⟨_,w⟩
 have k:∀q l X,Wy (TT.og t c) q l->Wy (TT.og t c) q X->l=X:=λq l X w=>by
  induction w generalizing X with
  | corner h=>intro s;cases s with
   | corner _=>rfl
   | step Y _=>lia
  | step h w D=>intro s;cases s with
   | corner Y=>lia
   | step Y s=>rw[D _ s]
 refine⟨λq=>if h:∃l,Wy (TT.og t c) q l then(Classical.choose h).length else 0,?_,?_,?_,?_,r⟩
 .intro p;show(if p<m+3/\(3<=p\/p=c) then chd d t c p else []).Nodup;split
  .unfold chd;refine List.Nodup.sublist List.filter_sublist ?_;have M:=B.good.nd p;have e:=Ad3 ((trn d p).idxOf (P7 t c p)) (trn d p);rw[<- e]at M;have P:=(Df (l₁:=(trn d p).drop ((trn d p).idxOf (P7 t c p)+1)) (l₂:=(trn d p).take ((trn d p).idxOf (P7 t c p)))).nodup_iff;refine P.mpr (M.sublist ?_);exact List.Sublist.append (List.Sublist.refl _) (by rw[<- List.drop_drop];exact List.drop_sublist _ _)
  .exact List.nodup_nil
 .intro p q;show q∈(if p<m+3/\(3<=p\/p=c) then chd d t c p else [])↔_;by_cases hp:p<m+3/\(3<=p\/p=c)
  .rw[Ae hp,<- B.chd_eq r hp.1 hp.2,Cp];have Q:∀z,z∈(trn d p).drop ((trn d p).idxOf (P7 t c p))++(trn d p).take ((trn d p).idxOf (P7 t c p))↔z∈trn d p:=λz=>by
    conv=>rhs;rw[<- Ad3 ((trn d p).idxOf (P7 t c p)) (trn d p)]
    simp only[Aa0];exact Or.comm
   rw[Q];unfold s9;simp only[Bc,Bj];constructor
   .rintro⟨a,b,e⟩;exact⟨b,B.good.lt _ _ a,e⟩
   .rintro⟨a,b,e⟩;refine⟨?_,a,e⟩
    have:=B.mem_out r a b
    rw[e]at this;exact this
  .rw[Ac hp];simp only[Ac2,false_iff];rintro⟨a,b,e⟩;have h1:=(B.out_mem r a b).2;rw[e]at h1;refine hp ⟨h1,?_⟩;by_cases R:3<=p
   .exact .inl R
   .right
    obtain⟨U,w,⟨g,e'⟩,_⟩:=B.way r a b;cases w with
    | corner h=>lia
    | step h w=>
     rw[e]at w;cases w with
     | corner Y=>
      cases g with
      | nil=>simp at e'
      | cons y g=>
       simp only[Ab6,Ce]at e';cases g with
       | nil=>simpa using e'.2
       | cons z g=>simp at e'
     | step Y _=>lia
 .intro q a b;refine⟨?_,(B.out_mem r a b).2⟩;obtain⟨U,w,_⟩:=B.way r a b;have N:=w;cases w with
  | corner h=>lia
  | step h s=>
   have h1:∃l,Wy (TT.og t c) (TT.og t c q) l:=⟨_,s⟩
   have J:∃l,Wy (TT.og t c) q l:=⟨_,N⟩
   show(if h:∃l,Wy (TT.og t c) (TT.og t c q) l then(Classical.choose h).length else 0)<(if h:∃l,Wy (TT.og t c) q l then(Classical.choose h).length else 0)
   rw[dif_pos h1,dif_pos J,k _ _ _ (Classical.choose_spec h1) s,k _ _ _ (Classical.choose_spec J) N]
   simp
 .intro q a b hlt;obtain⟨U,w,⟨g,e'⟩,_⟩:=B.way r a b;cases w with
  | corner h=>lia
  | step h w=>
   cases w with
   | corner Y=>
    cases g with
    | nil=>simp at e'
    | cons y g=>
     simp only[Ab6,Ce]at e';cases g with
     | nil=>simpa using e'.2
     | cons z g=>simp at e'
   | step Y _=>lia
end
variable {F G:Nat->Nat}{m:Nat}
theorem U2 {a b:AB}(h:(a++b).Nodup):∀x,x∈a->x∈b->False:=λx h1 e=>(Aa4.mp h).2.2 x h1 x e rfl
structure eI2 (F G:Nat->Nat)(i:Nat):Prop where
 k:(gst F G i).k=i
 a:F i-pv F i<(gst F G i).path.length
 b:G i-pv G i<((gst F G i).h1 (F i-pv F i)).length
 pl:(gst F G i).path.length<=i+1
 hl:((gst F G i).h1 (F i-pv F i)).length<=i+2
 lo:∀x∈((gst F G i).h1 (F i-pv F i)).take (G i-pv G i),3<=x/\x<i+3
 px:∃x r,(gst F G i).path.drop (F i-pv F i)=x::r/\x<i+3/\((gst F G i).i0 x).length<=i+3
 hy:∃y r,((gst F G i).h1 (F i-pv F i)).drop (G i-pv G i)=y::r/\y<i+3/\((gst F G i).i1 y).length<=i+3
 e0:(gst F G i).i0 (i+3)=[]
 e1:(gst F G i).i1 (i+3)=[]
theorem aZ9 {l:AB}{n:Nat}(y:l.Nodup)(h:∀x∈l,x<n):l.length<=n:=by
 have:=aO9 y (m:=List.range n) λx e=>Ab5.mpr (h x e)
 simpa using this
theorem aM8 {s:S}(I:bM0 s)(q:Nat):(s.row q).length<=s.k+3:=aZ9 (I.nd q) (I.lt q)
theorem dR5 {s:S}(I:bM0 s){q:Nat}(h:q<s.k+3)(y:q≠2)(h1:q≠1):(s.i0 q).length<=s.k+3:=by
 have:=aM8 I q
 by_cases e:q=0
 .subst e;rw[aC5]at this;simp at this;lia
 .rw[M7 (by lia) h]at this;simp at this;lia
theorem dP6 {s:S}(I:bM0 s){q:Nat}(h:q<s.k+3)(y:q≠2)(e:q≠0):(s.i1 q).length<=s.k+3:=by
 have:=aM8 I q
 by_cases h1:q=1
 .subst h1;rw[aK6]at this;simp at this;lia
 .rw[M7 (by lia) h]at this;simp at this;lia
theorem aD9 (R:Rws F G m){i:Nat}(hi:i<m):eI2 F G i:=by
 have I:=E1 R i (by lia)
 have A:=aS7 R hi
 have f1:=R.f1 i hi
 have f2:=R.f2 i hi
 have g1:=R.g1 i hi
 have g2:=R.g2 i hi
 have h1:=I.p
 have h2:=I.h
 have J:=I.inv.nd 2
 have lt:=I.inv.lt 2
 rw[Y4]at J lt;rw[I.k]at lt;have hx1:((gst F G i).h1 (F i-pv F i)).length=(F i-pv F i)+(gst F G i).heap.length:=by
  unfold S.h1;rw[Ab7,Ae1,Ad1];lia
 obtain⟨p,hp⟩:=A.pe;obtain⟨h,hh⟩:=A.he;have B:(gst F G i).path.drop (F i-pv F i)=p++[0]:=by rw[<- hp];rfl
 have e2:((gst F G i).h1 (F i-pv F i)).drop (G i-pv G i)=h++[1]:=by rw[<- hh];rfl
 have Y:∀x,x∈(gst F G i).path\/x∈(gst F G i).heap->x<i+3/\x≠2:=λx hx=>⟨lt x (by rcases hx with hx | hx <;> simp[hx]),(I.inv.bd x hx).1⟩
 have g:∀x∈(gst F G i).h1 (F i-pv F i),x∈(gst F G i).path.take (F i-pv F i)\/x∈(gst F G i).heap:=λx hx=>by
  unfold S.h1 at hx;simpa using hx
 have s:∀x∈(gst F G i).h1 (F i-pv F i),x∈(gst F G i).path\/x∈(gst F G i).heap:=λx hx=>(g x hx).imp As id
 have M:((gst F G i).path.take (F i-pv F i)++(gst F G i).path.drop (F i-pv F i)).Nodup:=by
  rw[Ad3]
  have:=(Aa4.mp J).1
  exact(List.reverse_perm _).nodup_iff.mp this
 have ndh:((gst F G i).h1 (F i-pv F i)).Nodup:=by
  unfold S.h1;refine Aa4.mpr ⟨?_,(Aa4.mp J).2.1,λx hx y hy e=>?_⟩
  .exact(List.reverse_perm _).nodup_iff.mpr (Aa4.mp M).1
  .subst e;exact U2 J x (by simpa using As (Bv.mp hx)) hy
 refine⟨I.k,by lia,by lia,by lia,by lia,λx hx=>?_,?_,?_,?_,?_⟩
 .have Q:=As hx
  obtain⟨U,D⟩:=Y x (s x Q);refine⟨?_,U⟩;have n1:x≠1:=λe=>by
   subst e;have nd':=ndh;rw[<- Ad3 (G i-pv G i) ((gst F G i).h1 (F i-pv F i))]at nd';exact U2 nd' 1 hx (by rw[e2];simp)
  have n0:x≠0:=λe=>by
   subst e;have z:0∈(gst F G i).path.drop (F i-pv F i):=by rw[B];simp
   rcases g 0 Q with w | w
   .exact U2 M 0 w z
   .exact U2 J 0 (by simpa using Bx z) w
  lia
 .cases X:(gst F G i).path.drop (F i-pv F i) with
  | nil=>rw[B]at X;simp at X
  | cons x r=>
   have N:x∈(gst F G i).path:=Bx (by rw[X];simp:x∈(gst F G i).path.drop (F i-pv F i))
   obtain⟨U,D⟩:=Y x (.inl N);refine⟨x,r,rfl,U,?_⟩;have n1:x≠1:=λe=>by
    subst e;obtain⟨h',P⟩:=I.inv.he;exact U2 J 1 (by simpa using N) (by rw[P];simp)
   have:=dR5 I.inv (q:=x) (by rw[I.k];exact U) D n1
   rwa [I.k]at this
 .cases X:((gst F G i).h1 (F i-pv F i)).drop (G i-pv G i) with
  | nil=>rw[e2]at X;simp at X
  | cons y r=>
   have N:y∈(gst F G i).h1 (F i-pv F i):=Bx (by rw[X];simp:y∈((gst F G i).h1 (F i-pv F i)).drop (G i-pv G i))
   obtain⟨U,D⟩:=Y y (s y N);refine⟨y,r,rfl,U,?_⟩;have n0:y≠0:=λe=>by
    subst e;have z:0∈(gst F G i).path.drop (F i-pv F i):=by rw[B];simp
    rcases g 0 N with w | w
    .exact U2 M 0 w z
    .exact U2 J 0 (by simpa using Bx z) w
   have:=dP6 I.inv (q:=y) (by rw[I.k];exact U) D n0
   rwa [I.k]at this
 .exact(I.inv.emp (i+3) (by rw[I.k];lia)).1
 .exact(I.inv.emp (i+3) (by rw[I.k];lia)).2
theorem cU8 (R:Rws F G m):∀i,i<=m->(gst F G i).i2 2=[]
 | 0,_=>rfl
 | i+1,h=>by
  show put (gst F G i).i2 ((gst F G i).k+3) (((gst F G i).h1 (F i-pv F i)).take (G i-pv G i)) 2=[]
  rw[C2 (by lia)]
  exact cU8 R i (by lia)
end TT
namespace LV
open PySem L2
theorem cO3 {K:Frag}{ρ:List Sl}(y:List Sl){c:TT}{t u:TS}{b:Bool}{R:AE}(h:T K c ρ b)(h1:b=true->W K t ρ {R with nx:=λr=>r=y})(k:b=false->W K u ρ {R with nx:=λr=>r=y})(g:R.nx y):W K (dB9 c t u) ρ R:=
 V4 h (λe=>(h1 e).weak (λr z=>by rw[z];exact g) (λ_ z=>z) (λ_ z=>z) (λ_ z=>z) (λ_ z=>z)) (λe=>(k e).weak (λr z=>by rw[z];exact g) (λ_ z=>z) (λ_ z=>z) (λ_ z=>z) (λ_ z=>z))
def Sl.nb:Sl->Bool
 | .bor _=>false
 | _=>true
theorem aB7 {x:Sl}{r:List Sl}:V8 (x::r)=(x.nb&&V8 r):=by cases x <;> rfl
theorem Q6 {n i:Nat}{d:PyData}(h:(P6 0 n)[i]? = some d):d=.int (i:Int)/\i<n:=by
 unfold P6 at h;have e:=(Ab0.mp h).1;have e:i<n:=by simpa using e
 rw[Aa9,List.getElem?_range e]at h;refine⟨?_,e⟩
 have:=(Ab4 h).symm
 simpa using this
theorem U9 {n:Nat}{lo:Int}:(P6 lo n).length=n:=by simp[P6]
def nI (l:AB):AD:=l.map λ(x:Nat)=>PyData.int (x:Int)
def lN (l:AB):PyData:=.list (nI l)
def oN (l:AB):OT:=.lst (l.map λ(x:Nat)=>OT.leaf (.int (x:Int)))
def fl (F:Nat->Nat)(m:Nat):AC:=(List.range m).map λi=>(F i:Int)
def N3 (k:Nat)(o0 o1 o2:Nat->Nat):OT:=.lst ((List.range k).map λj=>oN [o0 (j+3),o1 (j+3),o2 (j+3)])
def G9 (n:Nat)(i0 i1 i2:Nat->AB):OT:=.lst ((List.range n).map λq=>.tup [oN (i0 q),oN (i1 q),oN (i2 q)])
theorem C8 (l:AB):(nI l).length=l.length:=by simp[nI]
theorem F5 (l:AB):K9 (nI l)=true:=aE3 (λ_=>rfl) l
theorem j4 (l l':AB):nI (l++l')=nI l++nI l':=by simp[nI]
theorem dZ2 (l:AB):nI l.reverse=(nI l).reverse:=by simp[nI]
theorem cH3 (l:AB):(oN l).data=lN l:=by
 unfold oN lN nI;simp only[OT.data];rw[aF6 (g:=λx:Nat=>PyData.int (x:Int)) (λ_=>rfl)]
theorem cH6 (k:Nat)(o0 o1 o2:Nat->Nat):(N3 k o0 o1 o2).data=.list ((List.range k).map λj=>lN [o0 (j+3),o1 (j+3),o2 (j+3)]):=by
 unfold N3;simp only[OT.data];rw[aF6 (λj=>cH3 _)]
theorem cL9 (n:Nat)(i0 i1 i2:Nat->AB):(G9 n i0 i1 i2).data=.list ((List.range n).map λq=>.tuple [lN (i0 q),lN (i1 q),lN (i2 q)]):=by
 unfold G9;simp only[OT.data];rw[aF6 (g:=λq=>PyData.tuple [lN (i0 q),lN (i1 q),lN (i2 q)]) (λq=>by simp only[OT.data,OT.datas,cH3])]
theorem cF4 {F:Nat->Nat}{m i:Nat}(h:i<m):atI ((fl F m).map PyData.int) (i:Int)=some (.int (F i:Int)):=M3 i rfl (by simp[fl,h])
theorem V5 {α:Type}{n q:Nat}{f:Nat->α}(h:q<n):((List.range n).map f)[q]? = some (f q):=by simp[h]
theorem i3 {α:Type}{n q:Nat}{f g:Nat->α}{h:α->α}(r:q<n)(h1:h (f q)=g q)(k:∀j,j≠q->f j=g j):((List.range n).map f).modify q h=(List.range n).map g:=by
 rw[R3 (V5 r),h1];refine List.ext_getElem? λj=>?_
 rw[List.getElem?_set];by_cases e:q=j
 .subst e;simp[r]
 .rw[Ac e];by_cases y:j<n
  .rw[V5 y,V5 y,k j (λz=>e z.symm)]
  .rw[Ad6 (by simp;lia),Ad6 (by simp;lia)]
section
variable {n q k j:Nat}{i0 i1 i2:Nat->AB}{o0 o1 o2:Nat->Nat}
theorem aJ0 (h:q<n):(G9 n i0 i1 i2).at [q]=some (.tup [oN (i0 q),oN (i1 q),oN (i2 q)]):=by
 show((G9 n i0 i1 i2).kids[q]?).bind _=_
 unfold G9;simp only[OT.kids];rw[V5 h];rfl
theorem dH1 (h:q<n):(G9 n i0 i1 i2).at ([q]++[0])=some (oN (i0 q)):=by rw[aL7 (aJ0 h)];rfl
theorem dB7 (h:q<n):(G9 n i0 i1 i2).at ([q]++[1])=some (oN (i1 q)):=by rw[aL7 (aJ0 h)];rfl
theorem cB5 (h:q<n):(G9 n i0 i1 i2).at ([q]++[2])=some (oN (i2 q)):=by rw[aL7 (aJ0 h)];rfl
theorem dZ7 (h:j<k):(N3 k o0 o1 o2).at [j]=some (oN [o0 (j+3),o1 (j+3),o2 (j+3)]):=by
 show((N3 k o0 o1 o2).kids[j]?).bind _=_
 unfold N3;simp only[OT.kids];rw[V5 h];rfl
theorem cT7 (h:q<n)(l:AB):(G9 n i0 i1 i2).put ([q]++[0]) (oN l)=G9 n (TT.put i0 q l) i1 i2:=by
 unfold G9;rw[List.singleton_append,OT.put_lst]
 congr 1
 refine i3 h ?_ λj e=>by simp only[TT.C2 e]
 rw[OT.put_tup,TT.B7];rfl
theorem cT3 (h:q<n)(l:AB):(G9 n i0 i1 i2).put ([q]++[1]) (oN l)=G9 n i0 (TT.put i1 q l) i2:=by
 unfold G9;rw[List.singleton_append,OT.put_lst]
 congr 1
 refine i3 h ?_ λj e=>by simp only[TT.C2 e]
 rw[OT.put_tup,TT.B7];rfl
theorem cW6 (h:q<n)(l:AB):(G9 n i0 i1 i2).put ([q]++[2]) (oN l)=G9 n i0 i1 (TT.put i2 q l):=by
 unfold G9;rw[List.singleton_append,OT.put_lst]
 congr 1
 refine i3 h ?_ λj e=>by simp only[TT.C2 e]
 rw[OT.put_tup,TT.B7];rfl
theorem dD4 (h:j<k)(c:Nat):(N3 k o0 o1 o2).put [j] (oN [o0 (j+3),o1 (j+3),c])=N3 k o0 o1 (TT.put o2 (j+3) c):=by
 unfold N3;rw[OT.put_lst]
 congr 1
 refine i3 h ?_ λi hi=>by simp only[TT.C2 (show i+3≠j+3 by lia)]
 rw[OT.put_nil,TT.B7]
theorem bK1 (l:AB)(x:Nat):OT.lst ((l.map λ(x:Nat)=>OT.leaf (.int (x:Int)))++[.leaf (.int (x:Int))])=oN (l++[x]):=by simp[oN]
theorem cP4 (h:q<n)(x:Nat):(G9 n i0 i1 i2).put ([]++[q]++[0]) (.lst (((i0 q).map λ(x:Nat)=>OT.leaf (.int (x:Int)))++[.leaf (.int (x:Int))]))=G9 n (TT.put i0 q (i0 q++[x])) i1 i2:=by
 rw[bK1];exact cT7 h _
theorem cW1 (h:q<n)(x:Nat):(G9 n i0 i1 i2).put ([]++[q]++[1]) (.lst (((i1 q).map λ(x:Nat)=>OT.leaf (.int (x:Int)))++[.leaf (.int (x:Int))]))=G9 n i0 (TT.put i1 q (i1 q++[x])) i2:=by
 rw[bK1];exact cT3 h _
theorem bT2 (h:q<n)(x:Nat):(G9 n i0 i1 i2).put ([]++[q]++[2]) (.lst (((i2 q).map λ(x:Nat)=>OT.leaf (.int (x:Int)))++[.leaf (.int (x:Int))]))=G9 n i0 i1 (TT.put i2 q (i2 q++[x])):=by
 rw[bK1];exact cW6 h _
theorem cG0 {α:Type}{f:Nat->α}{q:Nat}{a b:α}:TT.put (TT.put f q a) q b=TT.put f q b:=by
 funext x;by_cases e:x=q
 .rw[e,TT.B7,TT.B7]
 .rw[TT.C2 e,TT.C2 e,TT.C2 e]
theorem dE9:OT.lst (((List.range n).map λq=>OT.tup [oN (i0 q),oN (i1 q),oN (i2 q)])++[.tup [.lst [],.lst [],.lst []]])=G9 (n+1) (TT.put i0 n []) (TT.put i1 n []) (TT.put i2 n []):=by
 unfold G9;rw[Bd,Ad2]
 congr 2
 .refine Ax λa e=>?_
  have:=Ab5.mp e
  rw[TT.C2 (by lia),TT.C2 (by lia),TT.C2 (by lia)]
 .simp[TT.B7,oN]
theorem dC6 (a b c:Nat):OT.lst (((List.range k).map λj=>oN [o0 (j+3),o1 (j+3),o2 (j+3)])++[.lst [.leaf (.int (a:Int)),.leaf (.int (b:Int)),.leaf (.int (c:Int))]])=N3 (k+1) (TT.put o0 (k+3) a) (TT.put o1 (k+3) b) (TT.put o2 (k+3) c):=by
 unfold N3;rw[Bd,Ad2]
 congr 2
 .refine Ax λx e=>?_
  have:=Ab5.mp e
  rw[TT.C2 (by lia),TT.C2 (by lia),TT.C2 (by lia)]
 .simp[TT.B7,oN]
end
theorem aN9 {n q:Nat}{f:Nat->PyData}(h:q<n):atI ((List.range n).map f) (q:Int)=some (f q):=M3 q rfl (V5 h)
theorem dJ8 {p h:AB}{s:TT.S}(e:s.path=p++[0])(y:s.heap=h++[1]):s.row 2=0::(p.reverse++h)++[1]:=by
 rw[TT.Y4,e,y];simp
section
variable {K:Frag}{ρ:List Sl}{m:Bool}{t ta tb:TE}{l l':AB}{ds es:AD}
theorem M1 (e:E K false ta ρ (lN l))(y:E K false tb ρ (lN l'))(z:l.length+l'.length<=100000):EF K (tOp (cV8 K) ta tb) ρ (nI (l++l')):=by
 rw[j4];exact bA3 e y (F5 l) (F5 l') (by rw[C8,C8];unfold sizeLine;lia)
theorem cF7 (e:E K false ta ρ (lN l)):EF K (bZ6 K ta) ρ (nI l.reverse):=by
 rw[dZ2];exact dT6 e (F5 l)
theorem EF.toN {t:TE}(h:EF K t ρ (nI l))(e:l=l'):E K m t ρ (lN l'):=by subst e;exact EF.e' h
end
end LV
namespace L2
open PySem PySem.Spec PyProof.Rows
abbrev KT (H:Hp):List (List Key×V)->List (List Key×Addr×Value)->Prop:=Paired λp q=>p.1=q.1/\H q.2.1=some (.tup (p.1.map kV))/\RelV p.2 q.2.2
abbrev VV:List (V×V)->List (Value×Value)->Prop:=Paired λp q=>RelV p.1 q.1/\RelV p.2 q.2
abbrev KvR:List (AC×Addr×V)->List (AC×Addr×Value)->Prop:=Paired (λp q=>p.1=q.1/\p.2.1=q.2.1/\RelV p.2.2 q.2.2)
end L2
namespace LV
open PySem L2
section
variable {K:Frag}{ρ:List Sl}{t:TE}
theorem cQ3 {i:Nat}{R:AE}{x y:Int}(hi:ρ[i]? = some (.val (.int x)))(h:E K true t ρ (.int y))(k:R.nx (ρ.set i (.val (.int (x+y))))):W K (dU5 i t (ipI λi j=>i+j)) ρ R:=λS B D σ H o I s=>by
 obtain⟨v,z,g⟩:=I.val i _ hi;cases g;refine⟨_,z,h S B σ H o I _ λv e Y r=>?_⟩
 cases r
 exact⟨_,_,rfl,rfl,s.nx _ _ e o ((I.grow Y).set (m:=true) i (d:=.int (x+y)) (.int _)) k⟩
end
end LV
namespace L2
open PySem PySem.Spec PyProof.Rows
end L2
namespace LV
open PySem L2
end LV
namespace PySem
open PySem.Spec PyProof.Rows PySem.W
end PySem
namespace L2
open PySem PySem.Spec PyProof.Rows PySem.W
end L2
namespace PySem
open PySem.Spec PyProof.Rows
end PySem
namespace L2
open PySem PySem.Spec PyProof.Rows PySem.W
end L2
namespace LV
open PySem L2
end LV
namespace L2
open PySem PySem.Spec PyProof.Rows
end L2
namespace LV
open PySem PyProof.Rows L2
end LV
namespace L2
open PySem PySem.Spec PyProof.Rows
structure InC (K:Frag)(C:Addr):Prop where
 ha:PySem.W.findIn K (.ref C) "__class__" = some (some (.builtin "object.__class__"))
 hn:PySem.W.specialIn K (.builtin "object.__class__") "__get__" = some (some (.builtin "getset_descriptor.__get__"))
 htk:PySem.W.takesIn K (.builtin "object.__class__")=some true
 hm:PySem.W.mroIn K C (.type "object")=some true
end L2
namespace LV
open PySem PySem.Spec PyProof.Rows L2
end LV
set_option maxHeartbeats 4000000
namespace K48
open PySem L2 LV PyProof.Rows
theorem T5 {K:Frag}{pre:AD->PyData->Prop}{n:Nat}(h:∀ds d,pre ds d->ds.length=n):∀vs H Q E,spV K pre vs H Q E->vs.length=n:=λvs H Q E ⟨ds,S,d,_,r,p,_⟩=>by
 have e:=r.length
 rw[e];exact h ds d p
@[elab_as_elim] theorem us1 {M:AF->Prop} {us:AF} (hl:us.length=1) (h:∀y,M [y]):M us:=by match us,hl with | [y],_=>exact h _
@[elab_as_elim] theorem us2 {M:AF->Prop} {us:AF} (hl:us.length=2) (h:∀y z,M [y,z]):M us:=by match us,hl with | [y,z],_=>exact h _ _
@[elab_as_elim] theorem us3 {M:AF->Prop} {us:AF} (hl:us.length=3) (h:∀y z g,M [y,z,g]):M us:=by match us,hl with | [y,z,g],_=>exact h _ _ _
@[elab_as_elim] theorem us4 {M:AF->Prop} {us:AF} (hl:us.length=4) (h:∀y z g k,M [y,z,g,k]):M us:=by match us,hl with | [y,z,g,k],_=>exact h _ _ _ _
def top (i:Nat):Stmt:=PySem.Challenge.pw_threetrees_k48_whole_each_pair_its_own_d.main.body.getD i (.Pass ⟨0,0,0,0⟩)
abbrev aA1:Stmt:=top 6
abbrev Q8:Stmt:=top 7
abbrev aW2:Stmt:=top 10
abbrev aI6:Stmt:=top 12
abbrev bW5:Stmt:=top 13
abbrev T7:Stmt:=top 16
abbrev u3:Stmt:=top 17
abbrev aP1:Stmt:=top 18
abbrev Z0:Stmt:=top 19
abbrev l5:Stmt:=top 20
abbrev aB9:Stmt:=top 21
abbrev W5:Stmt:=top 22
abbrev bK0:Stmt:=top 24
abbrev aQ8:Stmt:=top 25
abbrev aQ1:Stmt:=top 26
abbrev W9:Stmt:=top 30
abbrev aC1:Stmt:=top 31
abbrev aI5:Stmt:=top 32
abbrev aE2:Stmt:=top 33
abbrev Z6:Stmt:=top 35
abbrev v7:Stmt:=top 36
abbrev u5:Stmt:=top 37
abbrev v6:Stmt:=top 38
abbrev aB6:Stmt:=top 39
abbrev w5:Stmt:=top 40
abbrev j7:Stmt:=top 41
abbrev i8:Stmt:=top 43
abbrev S5:Stmt:=top 44
abbrev t9:Stmt:=top 45
abbrev aA3:Stmt:=top 46
abbrev Z8:Stmt:=top 47
abbrev cM7:Stmt:=top 48
abbrev l8:Stmt:=aU8 (top 23) 0
abbrev j6:Stmt:=aU8 (top 23) 1
abbrev k8:Stmt:=aU8 (top 23) 2
abbrev Z7:Stmt:=aU8 (top 23) 3
set_option genInjectivity false in
structure Ad where
 v9:Addr
 u6:FuncData
 Q7:Addr
 Q5:FuncData
 aZ7:Addr
 aX5:FuncData
 aJ6:Addr
 aI3:FuncData
 bW0:Addr
 bX2:FuncData
 N1:Addr
 M9:FuncData
 v4:Addr
 u4:FuncData
 aO6:Addr
 aQ5:FuncData
 Y7:Addr
 Z9:FuncData
 l7:Addr
 i6:FuncData
 X4:Addr
 X6:FuncData
 W4:Addr
 W8:FuncData
 aV2:Addr
 aU0:FuncData
 aQ7:Addr
 aP4:FuncData
 aR6:Addr
 aR0:FuncData
 W2:Addr
 W3:FuncData
 aA2:Addr
 w9:FuncData
 aJ9:Addr
 aI8:FuncData
 aE8:Addr
 aD4:FuncData
 a5:Addr
 Z1:FuncData
 y7:Addr
 u8:FuncData
 aA8:Addr
 aB1:FuncData
 v8:Addr
 aA0:FuncData
 v1:Addr
 aA6:FuncData
 t8:Addr
 aB3:FuncData
 i7:Addr
 j9:FuncData
 l9:Addr
 k9:FuncData
 R5:Addr
 R7:FuncData
 aB4:Addr
 w4:FuncData
 aA5:Addr
 aA4:FuncData
 Y8:Addr
 Z5:FuncData
 bR0:Addr
 bD8:FuncData
 C4:Addr
 L7:Addr
 O3:FuncData
 L6:Addr
 O6:FuncData
 L8:Addr
 O5:FuncData
 K0:Addr
 N4:FuncData
set_option genInjectivity false in
structure Tx (K:Frag)(mg:Str->Option Value)(a:Ad):Prop where
 y9:Fun K "begun_with" "begun_with" aA1 a.v9 a.u6
 aL2:mg "begun_with" = some (.ref a.v9)
 aL5:Binds K a.u6 ["ring", "first"] []
 Y9:Fun K "begun_with_least" "begun_with_least" Q8 a.Q7 a.Q5
 aI9:mg "begun_with_least" = some (.ref a.Q7)
 aI0:Binds K a.Q5 ["ring"] []
 aL3:Fun K "out_of" "out_of" aW2 a.aZ7 a.aX5
 aY5:mg "out_of" = some (.ref a.aZ7)
 aY9:Binds K a.aX5 ["outs", "place", "colour"] []
 aC2:Fun K "children" "children" aI6 a.aJ6 a.aI3
 aH9:mg "children" = some (.ref a.aJ6)
 aJ1:Binds K a.aI3 ["drawing", "outs", "place", "colour"] []
 dA6:Fun K "walk" "walk" bW5 a.bW0 a.bX2
 dW7:mg "walk" = some (.ref a.bW0)
 dX8:Binds K a.bX2 ["drawing", "outs", "colour"] []
 T3:Fun K "first_row_from" "first_row_from" T7 a.N1 a.M9
 m8:mg "first_row_from" = some (.ref a.N1)
 t6:Binds K a.M9 ["drawing", "outs", "place"] []
 aN8:Fun K "second_row" "second_row" u3 a.v4 a.u4
 bI6:mg "second_row" = some (.ref a.v4)
 bL9:Binds K a.u4 ["drawing", "outs"] []
 bE1:Fun K "rows_of" "rows_of" aP1 a.aO6 a.aQ5
 cH5:mg "rows_of" = some (.ref a.aO6)
 cL8:Binds K a.aQ5 ["drawing", "outs"] []
 aE6:Fun K "fault_in_row" "fault_in_row" Z0 a.Y7 a.Z9
 bA4:mg "fault_in_row" = some (.ref a.Y7)
 aV9:Binds K a.Z9 ["row"] []
 P9:Fun K "downs_ahead" "downs_ahead" l5 a.l7 a.i6
 V2:mg "downs_ahead" = some (.ref a.l7)
 V1:Binds K a.i6 ["row"] []
 X7:Fun K "first_over" "first_over" aB9 a.X4 a.X6
 aM2:mg "first_over" = some (.ref a.X4)
 aM0:Binds K a.X6 ["first", "second"] []
 aC6:Fun K "fault_of_rows" "fault_of_rows" W5 a.W4 a.W8
 aT1:mg "fault_of_rows" = some (.ref a.W4)
 aS9:Binds K a.W8 ["first", "second"] []
 cB1:Fun K "grown" "grown" bK0 a.aV2 a.aU0
 dH9:mg "grown" = some (.ref a.aV2)
 dH8:Binds K a.aU0 ["first", "second"] []
 bC8:Fun K "turn_of" "turn_of" aQ8 a.aQ7 a.aP4
 cJ1:mg "turn_of" = some (.ref a.aQ7)
 cL0:Binds K a.aP4 ["outs", "coming", "place"] []
 bC4:Fun K "of_rows" "of_rows" aQ1 a.aR6 a.aR0
 cL3:mg "of_rows" = some (.ref a.aR6)
 cH4:Binds K a.aR0 ["first", "second"] []
 W1:Fun K "refuse_beyond" "refuse_beyond" W9 a.W2 a.W3
 aC8:mg "refuse_beyond" = some (.ref a.W2)
 aC9:Binds K a.W3 ["m", "most"] []
 aM7:Fun K "many_pairs" "many_pairs" aC1 a.aA2 a.w9
 bG3:mg "many_pairs" = some (.ref a.aA2)
 bM4:Binds K a.w9 ["m"] []
 aY0:Fun K "all_rows" "all_rows" aI5 a.aJ9 a.aI8
 bV6:mg "all_rows" = some (.ref a.aJ9)
 bV2:Binds K a.aI8 ["m"] []
 aS1:Fun K "all_pairs" "all_pairs" aE2 a.aE8 a.aD4
 bP4:mg "all_pairs" = some (.ref a.aE8)
 bO6:Binds K a.aD4 ["m"] []
 S7:Fun K "_law_cell_at" "_law_cell_at" Z6 a.a5 a.Z1
 Y1:mg "_law_cell_at" = some (.ref a.a5)
 Y3:Binds K a.Z1 ["_law_script", "_law_k"] []
 aA9:Fun K "_law_mixed" "_law_mixed" v7 a.y7 a.u8
 aN2:mg "_law_mixed" = some (.ref a.y7)
 aO3:Binds K a.u8 ["_law_cell", "_law_k"] []
 aM1:Fun K "_law_grown" "_law_grown" u5 a.aA8 a.aB1
 bI4:mg "_law_grown" = some (.ref a.aA8)
 bG9:Binds K a.aB1 ["_law_first", "_law_second"] []
 aN3:Fun K "_law_begun" "_law_begun" v6 a.v8 a.aA0
 bI7:mg "_law_begun" = some (.ref a.v8)
 bJ4:Binds K a.aA0 ["_law_turn"] []
 aN1:Fun K "_law_whole" "_law_whole" aB6 a.v1 a.aA6
 bJ8:mg "_law_whole" = some (.ref a.v1)
 bL7:Binds K a.aA6 ["_law_found"] []
 X3:Fun K "_law_third" "_law_third" w5 a.t8 a.aB3
 w6:mg "_law_third" = some (.ref a.t8)
 aB5:Binds K a.aB3 ["_law_turns", "_law_p", "_law_q"] []
 aG9:Fun K "_law_counts" "_law_counts" j7 a.i7 a.j9
 bB5:mg "_law_counts" = some (.ref a.i7)
 bA9:Binds K a.j9 ["_law_cell", "_law_cells", "_law_m"] []
 aG6:Fun K "_law_called" "_law_called" i8 a.l9 a.k9
 bB6:mg "_law_called" = some (.ref a.l9)
 bB3:Binds K a.k9 ["_law_grown_here", "_law_names"] []
 a6:Fun K "_law_is_drawing" "_law_is_drawing" S5 a.R5 a.R7
 aN5:mg "_law_is_drawing" = some (.ref a.R5)
 aN6:Binds K a.R7 ["_law_turns"] []
 aN4:Fun K "_law_hangs" "_law_hangs" t9 a.aB4 a.w4
 bJ5:mg "_law_hangs" = some (.ref a.aB4)
 bM3:Binds K a.w4 ["_law_turns"] []
 aK4:Fun K "_law_round" "_law_round" aA3 a.aA5 a.aA4
 bM5:mg "_law_round" = some (.ref a.aA5)
 bJ3:Binds K a.aA4 ["_law_turns", "_law_outs", "_law_v"] []
 aE0:Fun K "_law_is_outs" "_law_is_outs" Z8 a.Y8 a.Z5
 aX9:mg "_law_is_outs" = some (.ref a.Y8)
 aY7:Binds K a.Z5 ["_law_turns", "_law_outs"] []
 eB8:Fun K "law" "law" cM7 a.bR0 a.bD8
 eB4:mg "law" = some (.ref a.bR0)
 eL9:Binds K a.bD8 ["_law_script"] []
 aL9:mg "ValueError" = none
 bW7:mg "bool" = none
 Q9:mg "enumerate" = none
 bS5:mg "int" = none
 N7:mg "isinstance" = none
 F9:mg "len" = none
 aD8:mg "list" = none
 bQ1:mg "min" = none
 J0:mg "range" = none
 aA7:mg "reversed" = none
 cO1:mg "set" = none
 aZ4:mg "sorted" = none
 P1:mg "tuple" = none
 cD3:mg "zip" = none
 E5:∃t,mg "CORNERS" = some (.int 3 t)
 X9:∃t,mg "COLOURS" = some (.int 3 t)
 aK3:∃t,mg "MOST_UPS" = some (.int 7 t)
 Z4:∃t,mg "MOST_COUNTED" = some (.int 100 t)
 j8:∃t,mg "MOST_LISTED" = some (.int 4 t)
 cR2:mg "Growth" = some (.ref a.C4)
 D6:Cls K a.C4
 dZ9:InC K a.C4
 Q3:NoAttr K a.C4 "unshut"
 Q0:NoAttr K a.C4 "heap"
 O4:NoAttr K a.C4 "ends"
 Y2:NoAttr K a.C4 "taken"
 V0:Fun K "__init__" "Growth.__init__" l8 a.L7 a.O3
 bB7:Binds K a.O3 ["self"] []
 aR2:Mk K a.C4 a.L7
 P8:Fun K "take" "Growth.take" j6 a.L6 a.O6
 aG4:Binds K a.O6 ["self", "many", "end"] []
 aD3:cI6 K a.C4 "take" a.L6
 P4:Fun K "come" "Growth.come" k8 a.L8 a.O5
 bB8:Binds K a.O5 ["self", "many"] []
 aZ2:cI6 K a.C4 "come" a.L8
 O9:Fun K "leave" "Growth.leave" Z7 a.K0 a.N4
 aZ0:Binds K a.N4 ["self"] []
 aT3:cI6 K a.C4 "leave" a.K0
structure Fq (K:Frag)(n:Str)(st:Stmt)(f:Addr)(d:FuncData):Prop where
 a:PySem.W.nsIn K mainGlobals n=some (some (.ref f))
 F:Fun K n n st f d
theorem tx_mk {K:Frag}{h:Heap}{mg:Str->Option Value}{C4 L7 L6 L8 K0 f0 f1 f2 f3 f4 f5 f6 f7 f8 f9 f10 f11 f12 f13 f14 f15 f16 f17 f18 f19 f20 f21 f22 f23 f24 f25 f26 f27 f28 f29 f30 f31:Addr}(X:K.In h)(G:h.Ns mainGlobals mg)
  {d0:FuncData} (q0:Fq K "begun_with" aA1 f0 d0)
  {d1:FuncData} (q1:Fq K "begun_with_least" Q8 f1 d1)
  {d2:FuncData} (q2:Fq K "out_of" aW2 f2 d2)
  {d3:FuncData} (q3:Fq K "children" aI6 f3 d3)
  {d4:FuncData} (q4:Fq K "walk" bW5 f4 d4)
  {d5:FuncData} (q5:Fq K "first_row_from" T7 f5 d5)
  {d6:FuncData} (q6:Fq K "second_row" u3 f6 d6)
  {d7:FuncData} (q7:Fq K "rows_of" aP1 f7 d7)
  {d8:FuncData} (q8:Fq K "fault_in_row" Z0 f8 d8)
  {d9:FuncData} (q9:Fq K "downs_ahead" l5 f9 d9)
  {d10:FuncData} (q10:Fq K "first_over" aB9 f10 d10)
  {d11:FuncData} (q11:Fq K "fault_of_rows" W5 f11 d11)
  {d12:FuncData} (q12:Fq K "grown" bK0 f12 d12)
  {d13:FuncData} (q13:Fq K "turn_of" aQ8 f13 d13)
  {d14:FuncData} (q14:Fq K "of_rows" aQ1 f14 d14)
  {d15:FuncData} (q15:Fq K "refuse_beyond" W9 f15 d15)
  {d16:FuncData} (q16:Fq K "many_pairs" aC1 f16 d16)
  {d17:FuncData} (q17:Fq K "all_rows" aI5 f17 d17)
  {d18:FuncData} (q18:Fq K "all_pairs" aE2 f18 d18)
  {d19:FuncData} (q19:Fq K "_law_cell_at" Z6 f19 d19)
  {d20:FuncData} (q20:Fq K "_law_mixed" v7 f20 d20)
  {d21:FuncData} (q21:Fq K "_law_grown" u5 f21 d21)
  {d22:FuncData} (q22:Fq K "_law_begun" v6 f22 d22)
  {d23:FuncData} (q23:Fq K "_law_whole" aB6 f23 d23)
  {d24:FuncData} (q24:Fq K "_law_third" w5 f24 d24)
  {d25:FuncData} (q25:Fq K "_law_counts" j7 f25 d25)
  {d26:FuncData} (q26:Fq K "_law_called" i8 f26 d26)
  {d27:FuncData} (q27:Fq K "_law_is_drawing" S5 f27 d27)
  {d28:FuncData} (q28:Fq K "_law_hangs" t9 f28 d28)
  {d29:FuncData} (q29:Fq K "_law_round" aA3 f29 d29)
  {d30:FuncData} (q30:Fq K "_law_is_outs" Z8 f30 d30)
  {d31:FuncData} (q31:Fq K "law" cM7 f31 d31)
  (aL9:PySem.W.nsIn K mainGlobals "ValueError" = some none)
  (bW7:PySem.W.nsIn K mainGlobals "bool" = some none)
  (Q9:PySem.W.nsIn K mainGlobals "enumerate" = some none)
  (bS5:PySem.W.nsIn K mainGlobals "int" = some none)
  (N7:PySem.W.nsIn K mainGlobals "isinstance" = some none)
  (F9:PySem.W.nsIn K mainGlobals "len" = some none)
  (aD8:PySem.W.nsIn K mainGlobals "list" = some none)
  (bQ1:PySem.W.nsIn K mainGlobals "min" = some none)
  (J0:PySem.W.nsIn K mainGlobals "range" = some none)
  (aA7:PySem.W.nsIn K mainGlobals "reversed" = some none)
  (cO1:PySem.W.nsIn K mainGlobals "set" = some none)
  (aZ4:PySem.W.nsIn K mainGlobals "sorted" = some none)
  (P1:PySem.W.nsIn K mainGlobals "tuple" = some none)
  (cD3:PySem.W.nsIn K mainGlobals "zip" = some none)
  {t_CORNERS:Tok} (E5:PySem.W.nsIn K mainGlobals "CORNERS" = some (some (.int 3 t_CORNERS)))
  {t_COLOURS:Tok} (X9:PySem.W.nsIn K mainGlobals "COLOURS" = some (some (.int 3 t_COLOURS)))
  {t_MOST_UPS:Tok} (aK3:PySem.W.nsIn K mainGlobals "MOST_UPS" = some (some (.int 7 t_MOST_UPS)))
  {t_MOST_COUNTED:Tok} (Z4:PySem.W.nsIn K mainGlobals "MOST_COUNTED" = some (some (.int 100 t_MOST_COUNTED)))
  {t_MOST_LISTED:Tok} (j8:PySem.W.nsIn K mainGlobals "MOST_LISTED" = some (some (.int 4 t_MOST_LISTED)))
  (P:PySem.W.nsIn K mainGlobals "Growth" = some (some (.ref C4)))
  (D6:Cls K C4) (D:InC K C4)
  (z:PySem.W.findIn K (.ref C4) "unshut" = some none)
  (Y:PySem.W.findIn K (.ref C4) "heap" = some none)
  (m:PySem.W.findIn K (.ref C4) "ends" = some none)
  (r:PySem.W.findIn K (.ref C4) "taken" = some none)
  {O3:FuncData} (J:PySem.W.findIn K (.ref C4) "__init__" = some (some (.ref L7))) (R:PySem.W.isFn K (.ref L7)=true) (V0:Fun K "__init__" "Growth.__init__" l8 L7 O3)
  (aR2:PySem.W.makesIn K C4=true) (B:PySem.W.keepIn K (.ref C4)=true)
  {O6:FuncData} (M:PySem.W.findIn K (.ref C4) "take" = some (some (.ref L6))) (Q:PySem.W.isFn K (.ref L6)=true) (P8:Fun K "take" "Growth.take" j6 L6 O6)
  {O5:FuncData} (U:PySem.W.findIn K (.ref C4) "come" = some (some (.ref L8))) (N:PySem.W.isFn K (.ref L8)=true) (P4:Fun K "come" "Growth.come" k8 L8 O5)
  {N4:FuncData} (g:PySem.W.findIn K (.ref C4) "leave" = some (some (.ref K0))) (k:PySem.W.isFn K (.ref K0)=true) (O9:Fun K "leave" "Growth.leave" Z7 K0 N4)
  {cdo_Growth:ClassData} (yo_Growth:PySem.W.clsIn K C4=some cdo_Growth) (to_Growth:PySem.W.typeIn K (.ref C4)=some (.type "type"))
  : ∃a:Ad,Tx K mg a/\a.bR0=f31/\∀(s:Shared) (v:Value),BindsTo s a.bD8 ⟨[v],[]⟩ [("_law_script",v)]:=by
 refine⟨⟨f0,d0,f1,d1,f2,d2,f3,d3,f4,d4,f5,d5,f6,d6,f7,d7,f8,d8,f9,d9,f10,d10,f11,d11,f12,d12,f13,d13,f14,d14,f15,d15,f16,d16,f17,d17,f18,d18,f19,d19,f20,d20,f21,d21,f22,d22,f23,d23,f24,d24,f25,d25,f26,d26,f27,d27,f28,d28,f29,d29,f30,d30,f31,d31,C4,L7,O3,L6,O6,L8,O5,K0,N4⟩,⟨q0.F,Ai X G q0.a,q0.F.binds λ_ _ _ _ _ _ y e=>us2 e λ_ _=>rfl,q1.F,Ai X G q1.a,q1.F.binds λ_ _ _ _ _ _ y e=>us1 e λ_=>rfl,q2.F,Ai X G q2.a,q2.F.binds λ_ _ _ _ _ _ y e=>us3 e λ_ _ _=>rfl,q3.F,Ai X G q3.a,q3.F.binds λ_ _ _ _ _ _ y e=>us4 e λ_ _ _ _=>rfl,q4.F,Ai X G q4.a,q4.F.binds λ_ _ _ _ _ _ y e=>us3 e λ_ _ _=>rfl,q5.F,Ai X G q5.a,q5.F.binds λ_ _ _ _ _ _ y e=>us3 e λ_ _ _=>rfl,q6.F,Ai X G q6.a,q6.F.binds λ_ _ _ _ _ _ y e=>us2 e λ_ _=>rfl,q7.F,Ai X G q7.a,q7.F.binds λ_ _ _ _ _ _ y e=>us2 e λ_ _=>rfl,q8.F,Ai X G q8.a,q8.F.binds λ_ _ _ _ _ _ y e=>us1 e λ_=>rfl,q9.F,Ai X G q9.a,q9.F.binds λ_ _ _ _ _ _ y e=>us1 e λ_=>rfl,q10.F,Ai X G q10.a,q10.F.binds λ_ _ _ _ _ _ y e=>us2 e λ_ _=>rfl,q11.F,Ai X G q11.a,q11.F.binds λ_ _ _ _ _ _ y e=>us2 e λ_ _=>rfl,q12.F,Ai X G q12.a,q12.F.binds λ_ _ _ _ _ _ y e=>us2 e λ_ _=>rfl,q13.F,Ai X G q13.a,q13.F.binds λ_ _ _ _ _ _ y e=>us3 e λ_ _ _=>rfl,q14.F,Ai X G q14.a,q14.F.binds λ_ _ _ _ _ _ y e=>us2 e λ_ _=>rfl,q15.F,Ai X G q15.a,q15.F.binds λ_ _ _ _ _ _ y e=>us2 e λ_ _=>rfl,q16.F,Ai X G q16.a,q16.F.binds λ_ _ _ _ _ _ y e=>us1 e λ_=>rfl,q17.F,Ai X G q17.a,q17.F.binds λ_ _ _ _ _ _ y e=>us1 e λ_=>rfl,q18.F,Ai X G q18.a,q18.F.binds λ_ _ _ _ _ _ y e=>us1 e λ_=>rfl,q19.F,Ai X G q19.a,q19.F.binds λ_ _ _ _ _ _ y e=>us2 e λ_ _=>rfl,q20.F,Ai X G q20.a,q20.F.binds λ_ _ _ _ _ _ y e=>us2 e λ_ _=>rfl,q21.F,Ai X G q21.a,q21.F.binds λ_ _ _ _ _ _ y e=>us2 e λ_ _=>rfl,q22.F,Ai X G q22.a,q22.F.binds λ_ _ _ _ _ _ y e=>us1 e λ_=>rfl,q23.F,Ai X G q23.a,q23.F.binds λ_ _ _ _ _ _ y e=>us1 e λ_=>rfl,q24.F,Ai X G q24.a,q24.F.binds λ_ _ _ _ _ _ y e=>us3 e λ_ _ _=>rfl,q25.F,Ai X G q25.a,q25.F.binds λ_ _ _ _ _ _ y e=>us3 e λ_ _ _=>rfl,q26.F,Ai X G q26.a,q26.F.binds λ_ _ _ _ _ _ y e=>us2 e λ_ _=>rfl,q27.F,Ai X G q27.a,q27.F.binds λ_ _ _ _ _ _ y e=>us1 e λ_=>rfl,q28.F,Ai X G q28.a,q28.F.binds λ_ _ _ _ _ _ y e=>us1 e λ_=>rfl,q29.F,Ai X G q29.a,q29.F.binds λ_ _ _ _ _ _ y e=>us3 e λ_ _ _=>rfl,q30.F,Ai X G q30.a,q30.F.binds λ_ _ _ _ _ _ y e=>us2 e λ_ _=>rfl,q31.F,Ai X G q31.a,q31.F.binds λ_ _ _ _ _ _ y e=>us1 e λ_=>rfl,Bb X G aL9,Bb X G bW7,Bb X G Q9,Bb X G bS5,Bb X G N7,Bb X G F9,Bb X G aD8,Bb X G bQ1,Bb X G J0,Bb X G aA7,Bb X G cO1,Bb X G aZ4,Bb X G P1,Bb X G cD3,⟨t_CORNERS,Ai X G E5⟩,⟨t_COLOURS,Ai X G X9⟩,⟨t_MOST_UPS,Ai X G aK3⟩,⟨t_MOST_COUNTED,Ai X G Z4⟩,⟨t_MOST_LISTED,Ai X G j8⟩,Ai X G P,D6,D,z,Y,m,r,V0,V0.binds λ_ _ _ _ _ _ y e=>us1 e λ_=>rfl,⟨aR2,J,R,B⟩,P8,P8.binds λ_ _ _ _ _ _ y e=>us3 e λ_ _ _=>rfl,⟨M,Q,P8.kp⟩,P4,P4.binds λ_ _ _ _ _ _ y e=>us2 e λ_ _=>rfl,⟨U,N,P4.kp⟩,O9,O9.binds λ_ _ _ _ _ _ y e=>us1 e λ_=>rfl,⟨g,k,O9.kp⟩⟩,rfl,λs v=>?_⟩
 obtain⟨_,_,_,_,_,_,_,_,_,rfl,_⟩:=q31.F.ex;exact .of_eq rfl
end K48
namespace LV
open PySem PySem.Spec PyProof.Rows L2
theorem bB2 (l:Addr)(items:AH)(n:Nat)(X:AJ)(J:Array (Option Value))(x:Value)(e:Value->Bool)(j:Nat)(hj:j<items.size)(Q:e items[j]=true)
  (N:∀(m:Nat) (hm:m<items.size),m<j->e items[m]=false) :
  Meets (Builtin.«tuple.index» {pos:=[.ref l,x]}) λA R s=>
   s.heap.get? l=some {cls:=.type "tuple",dict:=X,data:=.seq items n,slots:=J}/\(∀y∈items,SeqAt.EqAt A.in1 s y x (e y)) /\
    R (.ok (.ret (.int (j:Int) s.toks))) {s with toks:=s.toks+1}:=by
 intro U w A R s ⟨ho,F,B⟩;unfold Builtin.«tuple.index»;have M:selfAndSome "tuple.index" "index" 1 3 {pos:=[.ref l,x]}=pure (.ref l,[x]):=by rfl
 rw[M];refine Aa (Ab ?_);have ht:s.heap.get? l=some {cls:=.type "tuple",dict:=X,data:=.seq items n,slots:=J}:=ho;show wpAny _ _ (Builtin.Tuple.tupleItemsOf (.ref l) >>= _) _ _ s;refine Aa (wpAny_tupleItemsOf ht rfl ?_);refine Aa (Ab ?_);refine Aa (Ab ?_);refine Aa ?_;rw[Std.Legacy.Range.forIn_eq_forIn_range'];have P:([0:min items.size items.size]:Std.Legacy.Range).size=items.size:=by simp[Std.Legacy.Range.size]
 rw[P];refine wpAny_forIn_list _ (λz b Y=>(∃i,i<=j/\z=List.range' i (items.size-i) 1)/\b=(none,())/\Y=s) _ ?_ ?_ _ _ ⟨⟨0,Cn _,rfl⟩,rfl,rfl⟩
 .rintro i z b Y ⟨⟨i',hi,hrest⟩,rfl,rfl⟩;have r:i'<items.size:=by lia
  obtain⟨k,D⟩:∃k,items.size-i'=k+1:=⟨items.size-i'-1,by lia⟩
  rw[D,List.range'_succ,Ce]at hrest;obtain⟨rfl,rfl⟩:=hrest;dsimp only;rw[Cu r];dsimp only;refine Aa (F _ (Array.getElem_mem r) _ _ _ _ ?_);by_cases g:i=j
  .subst g;rw[Ae Q];refine Aa ?_;unfold retInt;refine Aa (wpAny_mkInt ?_);exact Ab (Ab (Ab B))
  .rw[N i r (by lia),Ac (by decide)]
   exact Ab ⟨⟨i+1,by lia,by rw[show items.size-(i+1)=k by lia]⟩,rfl,rfl⟩
 .rintro b Y ⟨⟨i,hi,hr'⟩,rfl,rfl⟩
  exfalso
  have:=congrArg List.length hr'
  simp at this
  lia
section
variable {X:Cx}
theorem m9 (K:Frag)(h:X.K=K:=by rfl):MtR X "tuple.index" (λx xs H Q=>∃(p:Addr) (l:AC) (k:Int),x=.ref p/\xs=[.int k]/\SqT K H p (l.map V.int)/\k∈l/\Q (.int (l.idxOf k)) H):=by
 subst h;intro aA s σ H x xs v us Q I rx rv ⟨p,l,k,R,D,hq,P,q⟩;subst R;subst D;cases rx;obtain⟨u,rfl,t,rfl⟩:=V7 rv;obtain⟨its,r,B,hz⟩:=I.tuple hq;obtain⟨⟨oc,od,J,M⟩,e,c,n,d⟩:=B;dsimp only at c d;subst c;subst d;have Y:=r.length;rw[Aa3]at Y;have g:l.idxOf k<l.length:=Cb.mpr P;have at_:∀(j:Nat) (g:j<its.toArray.size),∃t,its.toArray[j]=Value.int (l[j]'(by simpa[Y]using g)) t:=λj g=>by
  have U:j<l.length:=by simpa[Y]using g
  obtain⟨u,h1,t,rfl⟩:=r.get (i:=j) (x:=.int l[j]) (by rw[Aa9,Aa2 U];rfl)
  have:=(Ab0.mp h1).2
  exact⟨t,by simpa using this⟩
 refine call_meets F.slot_tuple_index ⟨_,e,rfl⟩ F.entry_tuple_index (F.args_tuple_index_2 _ _) (bB2 p its.toArray n od M (.int k t) (λy=>match y with | .int i _=>i==k | _=>false) (l.idxOf k) (by simpa[<- Y]using g) ?_ ?_) ⟨e,λy hy=>?_,?_⟩
 .obtain⟨N,e'⟩:=at_ (l.idxOf k) (by simpa[<- Y]using g)
  rw[e'];simp
 .intro m hm hlt;obtain⟨N,e'⟩:=at_ m hm;rw[e']
  have:l[m]'(by simpa[Y]using hm)≠k:=λz=>by
   have h1:m<l.length:=by simpa[Y]using hm
   exact bW9 h1 hlt z
  simpa using this
 .obtain⟨j,g,rfl⟩:=Array.mem_iff_getElem.mp hy;obtain⟨N,e'⟩:=at_ j g;rw[e'];exact SeqAt.EqAt.int_int _ _ _ _
 .exact⟨.int _,H,I.tok _,⟨_,rfl⟩,q⟩
theorem aG1 {P:Program}{w:World}{A:Around}{E:Dy}{s:Shared}{t sl:Addr}{items:AH}{vl vu:Value}{lo hi:Option Int}{Q:Dy}(e:IsTup s.heap t items)(k:s.heap.IsSliceOf sl vl vu .none)(pl:IsPart vl lo)(U:IsPart vu hi)
  (m:HT.sIx items.size 0 lo=0/\HT.sIx items.size items.size hi=items.size) (h:Q (.ref t) s):wpAny (model P w) A (getItem (.ref t) (.ref sl)) Q E s:=by
 obtain⟨os,g,r,Y⟩:=id k;have z:s.TypeIs (.ref sl) "slice" := ⟨os,g,r⟩;unfold getItem
 try with_reducible refine Bp ?_
 first | refine Aa (Ab ?_) | skip
 refine Aa (wpAny_sequenceKey e.typeIs (by decide) ?_)
 refine Aa (Cf (name:=Str.ofString "__getitem__") e.typeIs Br
  (Cj Br e.typeIs entry_tuple_getitem ?_ (args_tuple_getitem _ _)))
 show wpAny _ _ (Builtin.Tuple.tupleItemsOf (.ref t) >>= _) _ _ s
 refine Aa (tupleItemsOf_ e ?_);refine Aa (wpAny_typeOf z ?_);rw[Ae (by decide)]
 refine Aa (HT.p8 k pl U ?_);have y:((((HT.sIx items.size 0 lo:Nat):Int)==0&&(1:Int)==1&&(HT.sIx items.size items.size hi-HT.sIx items.size 0 lo)==items.size)=true):=by
  rw[m.1,m.2];simp
 show wpAny _ _ (if(((HT.sIx items.size 0 lo:Nat):Int)==0&&(1:Int)==1&&(HT.sIx items.size items.size hi-HT.sIx items.size 0 lo)==items.size)=true then _ else _) _ _ s
 rw[Ae y];refine Aa ?_;unfold Builtin.Tuple.tupleIsExact;refine Aa (wpAny_typeOf e.typeIs (Ab ?_));rw[Ae (by decide)]
 exact Aa (wpAny_rule (Ab ⟨_,rfl,Ab h⟩))
def eC9 (K:Frag):V->Option Int->Option Int->Hp->VK->Prop:=λx lo hi H Q=>∃a xs,x=.ref a/\SqT K H a xs /\
 (HT.sIx xs.length 0 lo=0/\HT.sIx xs.length xs.length hi=xs.length->Q (.ref a) H) /\
 (¬(HT.sIx xs.length 0 lo=0/\HT.sIx xs.length xs.length hi=xs.length)->∀p,H p=none->Q (.ref p) (upd H p (.tup (bL5 xs lo hi))))
theorem dB8 (K:Frag)(h:X.K=K:=by rfl):SlR X (eC9 K):=by
 subst h;intro M s σ H x v F B lo hi D Q I J g Y U h;obtain⟨a,xs,e,m,N,R⟩:=h;by_cases z:HT.sIx xs.length 0 lo=0/\HT.sIx xs.length xs.length hi=xs.length
 .subst e;cases J;obtain⟨its,r,k,P⟩:=I.tuple m;have y:its.toArray.size=xs.length:=by rw[Ab2];exact r.length.symm
  refine⟨"tuple",_,Br.lookup,k.typeIs,?_⟩;exact aG1 k g Y U (by rw[y];exact z) ⟨.ref a,H,I,rfl,N z⟩
 .exact dV1 M s σ H x v F B lo hi D Q I J g Y U ⟨a,xs,e,m,z,R z⟩
theorem bP2 (K:Frag)(h:X.K=K:=by rfl):OpR X (binaryOp .Add) (cM8 K):=h▸dF7
end
section
variable {K:Frag}{ρ:List Sl}{m:Bool}{t ta tb:TE}{d:PyData}{ds es:AD}
theorem bD1 (h:K9 ds=true):imm (.tuple ds)=true:=by simp[imm,h]
theorem cB3 {tl th:TO}{lo hi:Option Int}(U:E K false ta ρ (.tuple ds))(M:O K tl ρ lo)(J:O K th ρ hi)(g:K9 ds=true):E K m (tSl (eC9 K) ta tl th) ρ (.tuple (aI1 ds lo hi)):=
 E.bor (E.imm (m:=false) (λS B σ H o I Q q=>U S B σ H o I _ λx Y r N=>M S B σ Y o (I.grow r) _ λX s=>J S B σ X o ((I.grow r).grow s) _ λD R=>by
  cases N with
  | @tup a xs _ sa ra=>
  have y:=L2.Same.tr s R
  have z:=ra.length
  refine⟨a,xs,rfl,K8 y sa,λk=>q _ _ (L2.Same.tr r y) ?_,λ_ p hp=>q _ _ (L2.Same.tr r (L2.Same.tr y (D8 hp))) (.tup (SqT.of B3) (((ra.mono y).cut lo hi).mono (D8 hp)))⟩
  have e:aI1 ds lo hi=ds:=by
   unfold aI1;rw[<- z,k.1,k.2,z]
   simp
  rw[e];exact .tup (K8 y sa) (ra.mono y)) (bD1 (P0 lo hi g)))
theorem cZ6 (Y:E K false ta ρ (.tuple ds))(X:E K false tb ρ (.tuple es))(hi:K9 ds=true)(g:K9 es=true)(J:ds≠[])(U:ds.length+es.length<=sizeLine:=by first | decide | (unfold sizeLine;simp;done)):E K m (tOp (cM8 K) ta tb) ρ (.tuple (ds++es)):=
 E.bor (E.imm (m:=false) (λS B σ H o I Q q=>Y S B σ H o I _ λx s k M=>X S B σ s o (I.grow k) _ λy R r N=>by
  cases M with
  | @tup a xs _ sa ra=>
  cases N with
  | @tup b ys _ sb rb=>
  have e:=ra.mono r
  refine⟨a,b,xs,ys,rfl,rfl,K8 r sa,sb,λz=>J (by cases z;cases ra;rfl),by rw[ra.length,rb.length];exact U,λz=>q _ _ (L2.Same.tr k r) ?_,λ_ p hp=>q _ _ (L2.Same.tr k (L2.Same.tr r (D8 hp))) (.tup (SqT.of B3) ((e.append rb).mono (D8 hp)))⟩
  cases z
  cases rb
  rw[Bl];exact .tup (K8 r sa) e) (bD1 (by rw[aD2,hi,g];rfl)))
theorem cE6 {H:Hp}{p:V}{l:AC}(r:Rep K H p (tI l)):∃a,p=.ref a/\SqT K H a (l.map V.int):=by
 cases r with
 | @tup a xs _ s r=>exact⟨a,rfl,by rw[<- r.ints];exact s⟩
theorem aV4 {l:AC}{k:Int}(Y:E K false ta ρ (tI l))(X:E K false tb ρ (.int k))(U:k∈l) :
  E K m (tBM K "tuple" (λx xs H Q=>∃(p:Addr) (l:AC) (k:Int),x=.ref p/\xs=[.int k]/\SqT K H p (l.map V.int)/\k∈l/\Q (.int (l.idxOf k)) H) ta (K7 tb S8)) ρ (.int (l.idxOf k)):=E.bor (E.imm (m:=false) λS B σ H o I Q q=>Y S B σ H o I _ λv z e r=>by
 obtain⟨p,rfl,s⟩:=cE6 r;refine⟨.inr (.inl ⟨rfl,_,s⟩),?_⟩;refine X S B σ z o (I.grow e) _ λu g y J=>?_
 cases J
 exact⟨p,l,k,rfl,rfl,K8 y s,U,q _ g (L2.Same.tr e y) (.int _)⟩)
theorem cK5 {i:Nat}{R:AE}(hi:ρ[i]? = some (.own ds))(h:EF K t ρ es)(g:ds.length+es.length<=sizeLine)(k:R.nx (ρ.set i (.own (ds++es))))(nb:V8 ρ=true:=by rfl) :
  W K (bA2 (tBM K "list" cA8 (J7 i) (K7 t S8))) ρ R:=λS B D σ H o I s=>by
 obtain⟨p,hp,a,xs,b,c⟩:=I.own i ds hi;refine⟨_,a,.inl ⟨rfl,xs,SqL.of b⟩,?_⟩;refine h S B σ H o I _ λq Y X y n e r=>?_
 refine⟨_,_,xs,Y,rfl,rfl,y _ _ b,e,by rw[c.length,r.length];exact g,?_⟩
 exact s.nx _ σ _ _ ((I.grow y).upd hi hp ((c.mono (N6 y)).append (r.mono (F6 (L2.Same.rf _) λb z _=>.inl z))) (N0 nb)) k
end
end LV
set_option maxHeartbeats 1000000
namespace K48
open PySem L2 LV PyProof.Rows
theorem sc_Growth_take:D4 ["self", "many", "end", "again", "place"] ["self", "many", "end"] (C3 j6):=⟨rfl,rfl,rfl,by decide +kernel,rfl,by decide +kernel,by decide +kernel⟩
theorem sc_Growth_come:D4 ["self", "many", "place"] ["self", "many"] (C3 k8):=⟨rfl,rfl,rfl,by decide +kernel,rfl,by decide +kernel,by decide +kernel⟩
theorem aT0:D4 ["self"] ["self"] (C3 Z7):=⟨rfl,rfl,rfl,by decide +kernel,rfl,by decide +kernel,by decide +kernel⟩
theorem aY3:D4 ["self"] ["self"] (C3 l8):=⟨rfl,rfl,rfl,by decide +kernel,rfl,by decide +kernel,by decide +kernel⟩
structure GA where
 dx:Addr
 a1:Addr
 a2:Addr
 a3:Addr
 a4:Addr
 es:AK
def GA.all (A:GA):AK:=A.a1::A.a2::A.a3::A.a4::A.es
structure GS where
 u:AC
 h:AC
 t:AC
 E:List (List V)
structure GO (C:Addr)(H:Hp)(g:Addr)(A:GA)(s:GS):Prop where
 i:H g=some (.ins C A.dx [("unshut",.ref A.a1),("heap",.ref A.a2),("ends",.ref A.a3),("taken",.ref A.a4)])
 l1:H A.a1=some (.lst (s.u.map V.int))
 l2:H A.a2=some (.lst (s.h.map V.int))
 l3:H A.a3=some (.lst (A.es.map V.ref))
 l4:H A.a4=some (.lst (s.t.map V.int))
 le:Paired (λe r=>H e=some (.lst r)) A.es s.E
 nd:A.all.Nodup
def Frm (A:GA)(H H':Hp):Prop:=∀b o,b∉A.all->H b=some o->H' b=some o
section
variable {C g:Addr}{H H':Hp}{A:GA}{s:GS}
theorem bH3 {α β:Type}{P:α->β->Prop}:∀{l:List α} {m:List β} {n:Nat} {a:α},Paired P l m->l[n]? = some a->∃b,m[n]? = some b/\P a b
 | [],_,_,_,_,h=>by simp at h
 | x::l,_,0,a,r,h=>by cases r with | cons p _=>simp at h;subst h;exact⟨_,rfl,p⟩
 | x::l,_,n+1,a,r,h=>by cases r with | cons _ q=>simpa using bH3 q (by simpa using h)
theorem bM2 {α β:Type}{P:α->β->Prop}:∀{l:List α} {m:List β},Paired P l m->l.length=m.length
 | [],_,r=>by cases r;rfl
 | _::l,_,r=>by cases r with | cons _ q=>simp[bM2 q]
theorem aK1 {H:Hp}{b:Addr}{o:HO}:∀{es:AK} {E:List (List V)},b∉es->Paired (λe r=>H e=some (.lst r)) es E->Paired (λe r=>upd H b o e=some (.lst r)) es E
 | [],_,_,r=>by cases r;exact .nil
 | e::es,_,hb,r=>by
  cases r with
  | cons p q=>exact .cons (by rw[A8 (λz=>hb (by rw[<- z];simp))];exact p) (aK1 (λz=>hb (by simp[z])) q)
theorem cU7 {H:Hp}{b:Addr}{r':List V}:∀{es:AK} {E:List (List V)} {n:Nat},es.Nodup->es[n]? = some b->Paired (λe r=>H e=some (.lst r)) es E->Paired (λe r=>upd H b (.lst r') e=some (.lst r)) es (E.set n r')
 | [],_,_,_,h,_=>by simp at h
 | e::es,_,0,nd,h,r=>by
  simp at h;subst h
  cases r with
  | cons p q=>exact .cons B3 (aK1 (Aa5.mp nd).1 q)
 | e::es,_,n+1,nd,h,r=>by
  cases r with
  | cons p q=>
   have y:es[n]? = some b:=by simpa using h
   refine .cons ?_ (cU7 (Aa5.mp nd).2 y q);rw[A8 λz=>(Aa5.mp nd).1 (by rw[z];exact Ar y)];exact p
theorem GO.at_i (G:GO C H g A s){b:Addr}{xs:List V}(e:H b=some (.lst xs)):g≠b:=λz=>by rw[<- z,G.i]at e;cases e
theorem GO.ne (G:GO C H g A s):A.a1≠A.a2/\A.a1≠A.a3/\A.a1≠A.a4/\A.a2≠A.a3/\A.a2≠A.a4/\A.a3≠A.a4/\A.a1∉A.es/\A.a2∉A.es/\A.a3∉A.es/\A.a4∉A.es/\A.es.Nodup:=by
 have e:=G.nd
 unfold GA.all at e;simp only[Aa5,Aa1,not_or]at e;exact⟨e.1.1,e.1.2.1,e.1.2.2.1,e.2.1.1,e.2.1.2.1,e.2.2.1.1,e.1.2.2.2,e.2.1.2.2,e.2.2.1.2,e.2.2.2.1,e.2.2.2.2⟩
theorem aL4 {b:Addr}{o:HO}(y:b∈A.all):Frm A H (upd H b o):=λc p r e=>by rw[A8 λz=>r (by rw[z];exact y)];exact e
theorem Frm.tr {H1 H2 H3:Hp}(a:Frm A H1 H2)(b:Frm A H2 H3):Frm A H1 H3:=λc o y e=>b c o y (a c o y e)
theorem Frm.rf:Frm A H H:=λ_ _ _ e=>e
theorem GO.set1 (G:GO C H g A s)(u:AC):GO C (upd H A.a1 (.lst (u.map V.int))) g A {s with u:=u}:=by
 obtain⟨e,y,z,_,_,_,r,_⟩:=G.ne;exact⟨by rw[A8 (G.at_i G.l1)];exact G.i,B3,by rw[A8 (Ne.symm e)];exact G.l2,by rw[A8 (Ne.symm y)];exact G.l3,by rw[A8 (Ne.symm z)];exact G.l4,aK1 r G.le,G.nd⟩
theorem GO.set2 (G:GO C H g A s)(u:AC):GO C (upd H A.a2 (.lst (u.map V.int))) g A {s with h:=u}:=by
 obtain⟨e,_,_,y,z,_,_,r,_⟩:=G.ne;exact⟨by rw[A8 (G.at_i G.l2)];exact G.i,by rw[A8 e];exact G.l1,B3,by rw[A8 (Ne.symm y)];exact G.l3,by rw[A8 (Ne.symm z)];exact G.l4,aK1 r G.le,G.nd⟩
theorem GO.set4 (G:GO C H g A s)(u:AC):GO C (upd H A.a4 (.lst (u.map V.int))) g A {s with t:=u}:=by
 obtain⟨_,_,e,_,y,z,_,_,_,r,_⟩:=G.ne;exact⟨by rw[A8 (G.at_i G.l4)];exact G.i,by rw[A8 e];exact G.l1,by rw[A8 y];exact G.l2,by rw[A8 z];exact G.l3,B3,aK1 r G.le,G.nd⟩
theorem GO.setE (G:GO C H g A s){n:Nat}{e:Addr}{r:List V}(k:A.es[n]? = some e):GO C (upd H e (.lst r)) g A {s with E:=s.E.set n r}:=by
 obtain⟨_,_,_,_,_,_,Y,X,U,J,M⟩:=G.ne;have y:=Ar k;obtain⟨b,_,m⟩:=bH3 G.le k;exact⟨by rw[A8 (G.at_i m)];exact G.i,by rw[A8 λz=>Y (by rw[z];exact y)];exact G.l1,by rw[A8 λz=>X (by rw[z];exact y)];exact G.l2,by rw[A8 λz=>U (by rw[z];exact y)];exact G.l3,by rw[A8 λz=>J (by rw[z];exact y)];exact G.l4,cU7 M k G.le,G.nd⟩
theorem cQ9 {α β:Type}{P:α->β->Prop}{l':List α}{m':List β}(e:Paired P l' m'):∀{l:List α} {m:List β},Paired P l m->Paired P (l++l') (m++m')
 | [],_,r=>by cases r;exact e
 | _::_,_,r=>by cases r with | cons p q=>exact .cons p (cQ9 e q)
theorem GO.fresh (G:GO C H g A s){p:Addr}{o:HO}(hp:H p=none):GO C (upd H p o) g A s/\p∉A.all:=by
 have ne:∀{b:Addr} {x:HO},H b=some x->b≠p:=λe z=>by rw[z,hp]at e;cases e
 have y:p∉A.es:=λh=>by
  obtain⟨n,k⟩:=List.mem_iff_getElem?.mp h;obtain⟨r,_,e⟩:=bH3 G.le k;exact ne e rfl
 refine⟨⟨by rw[A8 (ne G.i)];exact G.i,by rw[A8 (ne G.l1)];exact G.l1,by rw[A8 (ne G.l2)];exact G.l2,by rw[A8 (ne G.l3)];exact G.l3,by rw[A8 (ne G.l4)];exact G.l4,aK1 y G.le,G.nd⟩,λh=>?_⟩
 unfold GA.all at h;simp only[Aa1]at h;rcases h with h | h | h | h | h
 .exact ne G.l1 h.symm
 .exact ne G.l2 h.symm
 .exact ne G.l3 h.symm
 .exact ne G.l4 h.symm
 .exact y h
theorem GO.addE (G:GO C H g A s){p:Addr}{r:List V}(hp:H p=none):GO C (upd (upd H p (.lst r)) A.a3 (.lst ((A.es++[p]).map V.ref))) g {A with es:=A.es++[p]} {s with E:=s.E++[r]}:=by
 obtain⟨k,U⟩:=G.fresh (o:=.lst r) hp;obtain⟨_,m,_,Y,_,X,_,_,N,_,_⟩:=k.ne;have R:p≠A.a3:=λz=>U (by unfold GA.all;rw[z];simp)
 refine⟨by rw[A8 (k.at_i k.l3)];exact k.i,by rw[A8 m];exact k.l1,by rw[A8 Y];exact k.l2,B3,by rw[A8 (Ne.symm X)];exact k.l4,cQ9 (.cons (by rw[A8 R];exact B3) .nil) (aK1 N k.le),?_⟩
 show(A.a1::A.a2::A.a3::A.a4::(A.es++[p])).Nodup
 have:(A.all++[p]).Nodup:=Aa4.mpr ⟨G.nd,by simp,λx J y M e=>U (by rw[<- Ad8.mp M,<- e];exact J)⟩
 exact this
def W7 (e:Int):Nat->GS->GS
 | 0,s=>s
 | k+1,s=>W7 e k {s with h:=s.h.dropLast,t:=s.t++[s.h.getLastD 0],E:=s.E.set (s.h.getLastD 0-3).toNat ((s.E.getD (s.h.getLastD 0-3).toNat []).set 2 (.int e))}
def okT (e:Int):Nat->GS->Prop
 | 0,_=>True
 | k+1,s=>s.h≠[]/\3<=s.h.getLastD 0/\(s.h.getLastD 0-3).toNat<s.E.length/\(s.E.getD (s.h.getLastD 0-3).toNat []).length=3/\s.t.length<1000/\okT e k {s with h:=s.h.dropLast,t:=s.t++[s.h.getLastD 0],E:=s.E.set (s.h.getLastD 0-3).toNat ((s.E.getD (s.h.getLastD 0-3).toNat []).set 2 (.int e))}
end
def dZ0 (C:Addr):Sp:=λvs H Q _=>∃(g:Addr) (A:GA) (s:GS) (k:Nat) (e:Int),vs=[.ref g,.int (k:Int),.int e]/\k<1000/\GO C H g A s/\okT e k s/\∀H',GO C H' g A (W7 e k s)->Frm A H H'->Q .non H'
def dJ0 (C:Addr):Sp:=λvs H Q _=>∃(g:Addr) (A:GA) (s:GS),vs=[.ref g]/\GO C H g A s/\s.u≠[]/\s.h.length<1000/\∀H',GO C H' g A {s with u:=s.u.dropLast,h:=s.h++[s.u.getLastD 0]}->Frm A H H'->Q .non H'
def aW9 (k:Nat)(s:GS):GS:=
 {W7 (3+(s.E.length:Int)) k s with E:=(W7 (3+(s.E.length:Int)) k s).E++[[.int ((W7 (3+(s.E.length:Int)) k s).u.getLastD 0),.int ((W7 (3+(s.E.length:Int)) k s).h.getLastD 0),.non]],u:=(W7 (3+(s.E.length:Int)) k s).u++[3+(s.E.length:Int)]}
def dU2 (C:Addr):Sp:=λvs H Q _=>∃(g:Addr) (A:GA) (s:GS) (k:Nat),vs=[.ref g,.int (k:Int)]/\k<1000/\s.E.length<1000/\s.u.length<1000/\GO C H g A s/\okT (3+(s.E.length:Int)) k s/\s.u≠[]/\(W7 (3+(s.E.length:Int)) k s).h≠[] /\
 ∀H' A',GO C H' g A' (aW9 k s)->Frm A H H'->(∀b∈A'.all,b∈A.all\/H b=none)->Q .non H'
theorem cO0 (e:Int):∀(k:Nat) (s:GS),(W7 e k s).u=s.u/\(W7 e k s).E.length=s.E.length
 | 0,s=>⟨rfl,rfl⟩
 | k+1,s=>by
  obtain⟨h1,y⟩:=cO0 e k {s with h:=s.h.dropLast,t:=s.t++[s.h.getLastD 0],E:=s.E.set (s.h.getLastD 0-3).toNat ((s.E.getD (s.h.getLastD 0-3).toNat []).set 2 (.int e))}
  exact⟨h1,by rw[W7,y];simp⟩
def dT9 (C:Addr):Sp:=λvs H Q _=>∃(g dx:Addr),vs=[.ref g]/\H g=some (.ins C dx [])/\∀H' A,GO C H' g A ⟨[0],[1],[],[]⟩->(∀b o,b≠g->H b=some o->H' b=some o)->(∀b∈A.all,H b=none)->A.dx=dx->Q .non H'
section
variable {P:Program}{w:World}{K:Frag}{mg:Str->Option Value}{base:Heap}{a:Ad}
theorem dK3 {h:AC}(e:h≠[]):(h.map V.int)[(h.map V.int).length-1]? = some (V.int (h.getLastD 0))/\(h.map V.int).dropLast=h.dropLast.map V.int:=by
 rcases h.eq_nil_or_concat with rfl | ⟨l,x,rfl⟩
 .exact absurd rfl e
 .rw[List.concat_eq_append]
  simp
theorem cC5 (T:Tx K mg a):FnOk P w K mg base CX0 1 a.L6 a.O6 ["self", "many", "end"] (dZ0 a.C4):=by
 refine T.P8.ok sc_Growth_take (by rintro vs H Q E ⟨_,_,_,_,_,rfl,_⟩;rfl) (λcdv A' outer sh H vs Q E hr h=>?_)
 obtain⟨g,A,s,k,e,rfl,hk,G,ok,q⟩:=h;obtain⟨Y,E5⟩:=T.E5;refine⟨_,(B0 (G5 Aj rfl (G8 rfl T.J0 (A0 (pv 1) A4)) (C5 (i:=3) sc_Growth_take.nd rfl (Or.inl rfl)) (A6 (C0 (i:=4) sc_Growth_take.nd rfl (Or.inl rfl) (aP8 Ab1 PySem.F.slot_list_pop PySem.F.type_list_pop aQ9 (R8 (pv 0) rfl)))
   (A6 (aX1 (pv 2) (bK4 (B6 (ixK K) (R8 (pv 0) rfl) (B2 L4 (pv 4) (M6 (v:=.int 3) rfl E5 ⟨Y,rfl⟩)) (λ_ _=>rfl)) A7 aM6))
   (B0 (E8 (J9 Ab1 Ag Af D9 (R8 (pv 0) rfl) (A0 (pv 4) A4)))))))),?_⟩
 refine⟨_,rfl,(k:Int),rfl,by lia,by lia,λi m σ H'=>∃y x3 x4,i<=k/\m=k-i/\GO a.C4 H' g A y/\okT e (k-i) y/\W7 e (k-i) y=W7 e k s/\Frm A H H'/\σ=[some (.ref g),some (.int (k:Int)),some (.int e),x3,x4],⟨_,s,none,none,Cn _,rfl,G,ok,rfl,Frm.rf,rfl⟩,?_⟩
 rintro i m σ H' ⟨y,x3,x4,hik,rfl,U,ok',e1,fr,rfl⟩;by_cases c:i=k
 .subst c;rw[Nat.sub_self]at e1;exact .inl ⟨by show(i:Int).toNat<=i;lia,q H' (by rw[<- e1];exact U) fr⟩
 right
 obtain⟨j,hj⟩:∃j,k-i=j+1:=⟨k-i-1,by lia⟩
 rw[hj]at ok' e1;obtain⟨hn,h3,hE,N,ht,ok2⟩:=ok';obtain⟨lv1,lv2⟩:=dK3 hn;refine⟨by show i<(k:Int).toNat;lia,λσ2 J=>∃s2 x3 x4,GO a.C4 J g A s2/\okT e j s2/\W7 e j s2=W7 e k s/\Frm A H J/\σ2=[some (.ref g),some (.int (k:Int)),some (.int e),x3,x4],λσ2 J ⟨s2,y3,y4,z1,z2,z3,z4,z5⟩=>⟨j,by lia,s2,y3,y4,by lia,by lia,z1,by rw[show k-(i+1)=j by lia];exact z2,by rw[show k-(i+1)=j by lia];exact z3,z4,z5⟩,?_⟩
 rintro x J ⟨rfl,rfl⟩;generalize hl:y.h.getLastD 0=l at *;obtain⟨n,rfl⟩:∃n:Nat,l=(n:Int)+3:=⟨(l-3).toNat,by lia⟩
 rw[show((n:Int)+3-3).toNat=n by lia]at *
 have les:A.es.length=y.E.length:=bM2 U.le
 obtain⟨M,X⟩:∃M,A.es[n]? = some M:=⟨A.es[n]'(by lia),Aa2 (by lia)⟩
 obtain⟨row,B,hHr⟩:=bH3 U.le X;have D:y.E.getD n []=row:=by rw[Ac0,B];rfl
 rw[D]at N ok2;have G1:=U.set2 y.h.dropLast;rw[<- lv2]at G1;have R:upd J A.a2 (.lst (y.h.map V.int).dropLast) M=some (.lst row):=by
  rw[A8 λz=>U.ne.2.2.2.2.2.2.2.1 (by rw[<- z];exact Ar X)];exact hHr
 have G2:=G1.setE (r:=row.set 2 (.int e)) X
 have G3:=G2.set4 (y.t++[(n:Int)+3])
 refine⟨_,rfl,g,_,_,_,_,rfl,U.i,T.D6,T.Q0,rfl,.inl ⟨rfl,_,SqL.of U.l2⟩,A.a2,_,_,rfl,rfl,U.l2,lv1,?_⟩;refine⟨_,rfl,?_⟩;refine⟨_,rfl,g,_,_,_,_,rfl,G1.i,T.D6,T.O4,rfl,_,rfl,(n:Int)+3,3,rfl,rfl,.inl ⟨A.a3,_,(n:Int)+3-3,.ref M,rfl,rfl,SqL.of G1.l3,?_,M,row,2,2,rfl,rfl,R,by rw[N];rfl,?_⟩⟩
 .exact M3 n (by lia) (by rw[Aa9,X];rfl)
 refine⟨_,rfl,g,_,_,_,_,rfl,G2.i,T.D6,T.Y2,rfl,.inl ⟨rfl,_,SqL.of G2.l4⟩,_,rfl,A.a4,_,_,rfl,rfl,G2.l4,by rw[Aa3];show y.t.length<sizeLine;rw[Cd];lia,?_⟩
 have e4:y.t.map V.int++[V.int ((n:Int)+3)]=(y.t++[(n:Int)+3]).map V.int:=by simp
 rw[show(({y with h:=y.h.dropLast,E:=y.E.set n (row.set 2 (.int e))}:GS).t.map V.int++[V.int ((n:Int)+3)])=(y.t++[(n:Int)+3]).map V.int from e4]
 refine⟨_,_,_,G3,ok2,?_,fr.tr ((aL4 (by unfold GA.all;simp)).tr ((aL4 (by unfold GA.all;simp[Ar X])).tr (aL4 (by unfold GA.all;simp)))),rfl⟩
 rw[<- e1];show _=W7 e j _;rw[hl,show((n:Int)+3-3).toNat=n by lia,D]
theorem cX1 (T:Tx K mg a):FnOk P w K mg base CX0 1 a.K0 a.N4 ["self"] (dJ0 a.C4):=by
 refine T.O9.ok aT0 (by rintro vs H Q E ⟨_,_,_,rfl,_⟩;rfl) (λm U r N H vs Q E M h=>?_)
 obtain⟨g,A,s,rfl,G,X,J,q⟩:=h;refine⟨_,(B0 (E8 (J9 Ab1 Ag Af D9 (R8 (pv 0) rfl) (A0 (aP8 Ab1 PySem.F.slot_list_pop PySem.F.type_list_pop aQ9 (R8 (pv 0) rfl)) A4)))),?_⟩;obtain⟨y,z⟩:=dK3 X;have e:=G.set1 s.u.dropLast;rw[<- z]at e;have k:=e.set2 (s.h++[s.u.getLastD 0]);refine⟨_,rfl,g,_,_,_,_,rfl,G.i,T.D6,T.Q0,rfl,.inl ⟨rfl,_,SqL.of G.l2⟩,⟨_,rfl,g,_,_,_,_,rfl,G.i,T.D6,T.Q3,rfl,.inl ⟨rfl,_,SqL.of G.l1⟩,A.a1,_,_,rfl,rfl,G.l1,y,A.a2,_,_,rfl,rfl,e.l2,by rw[Aa3];show s.h.length<sizeLine;rw[Cd];lia,?_⟩⟩
 have Y:s.h.map V.int++[V.int (s.u.getLastD 0)]=(s.h++[s.u.getLastD 0]).map V.int:=by simp
 rw[show(({s with u:=s.u.dropLast}:GS).h.map V.int++[V.int (s.u.getLastD 0)])=(s.h++[s.u.getLastD 0]).map V.int from Y]
 exact q _ k ((aL4 (by unfold GA.all;simp)).tr (aL4 (by unfold GA.all;simp)))
theorem dL7 {h:AC}(e:h≠[]):atI (h.map V.int) (-1)=some (V.int (h.getLastD 0)):=by
 rcases h.eq_nil_or_concat with rfl | ⟨l,x,rfl⟩
 .exact absurd rfl e
 .rw[List.concat_eq_append,Ad2];simp only[List.getLastD_eq_getLast?,List.getLast?_append,List.getLast?_singleton,Option.some_or,Option.getD_some];exact aF2
theorem dJ5 (T:Tx K mg a):FnOk P w K mg base CX0 2 a.L8 a.O5 ["self", "many"] (dU2 a.C4):=by
 have y:FnOk P w K mg base CX0 1 _ _ _ _:=cC5 T
 refine T.P4.ok sc_Growth_come (by rintro vs H Q E ⟨_,_,_,_,rfl,_⟩;rfl) (λcdv A' R sh H vs Q E hr h=>?_)
 obtain⟨g,A,s,k,rfl,hk,hE,hu1,G,ok,hu,hh,q⟩:=h;obtain⟨m,B⟩:=T.E5;refine⟨_,(A6 (C0 (i:=2) sc_Growth_come.nd rfl (Or.inl rfl) (B2 G0 (M6 (v:=.int 3) rfl B ⟨m,rfl⟩) (B8 (T9 K) (by rfl) T.F9 Ah (A0 (R8 (pv 0) rfl) A4))))
   (A6 (E8 (bJ9 (pv 0) T.D6 T.aD3 y (hr.mono (by decide)) T.aG4 .nil E2 (A0 (pv 1) (A0 (pv 2) A4))))
   (A6 (E8 (J9 Ab1 Ag Af D9 (R8 (pv 0) rfl) (A0 (C9 (A0 (B6 (ixK K) (R8 (pv 0) rfl) (aH3 m5 A7) (λ_ _=>rfl)) (A0 (B6 (ixK K) (R8 (pv 0) rfl) (aH3 m5 A7) (λ_ _=>rfl)) (A0 aB8 A4)))) A4)))
   (B0 (E8 (J9 Ab1 Ag Af D9 (R8 (pv 0) rfl) (A0 (pv 2) A4))))))),?_⟩
 have U:A.es.length=s.E.length:=bM2 G.le
 obtain⟨F,pE⟩:=cO0 (3+(s.E.length:Int)) k s;refine⟨_,rfl,g,_,_,_,_,rfl,G.i,T.D6,T.O4,rfl,A.a3,_,rfl,.inl (SqL.of G.l3),3,_,rfl,rfl,?_⟩;rw[Aa3,U];refine⟨_,rfl,g,_,_,rfl,G.i,rfl,_,rfl,_,rfl,g,A,s,k,3+(s.E.length:Int),rfl,hk,G,ok,λH1 Y D=>?_⟩
 have N:(W7 (3+(s.E.length:Int)) k s).u≠[]:=by rw[F];exact hu
 generalize M:W7 (3+(s.E.length:Int)) k s=s1 at *;refine⟨_,rfl,g,_,_,_,_,rfl,Y.i,T.D6,T.O4,rfl,.inl ⟨rfl,_,SqL.of Y.l3⟩,?_⟩;refine⟨_,rfl,g,_,_,_,_,rfl,Y.i,T.D6,T.Q3,rfl,1,rfl,.inl ⟨A.a1,_,-1,_,rfl,rfl,SqL.of Y.l1,dL7 N,?_⟩⟩;refine⟨_,rfl,g,_,_,_,_,rfl,Y.i,T.D6,T.Q0,rfl,1,rfl,.inl ⟨A.a2,_,-1,_,rfl,rfl,SqL.of Y.l2,dL7 hh,?_⟩⟩;refine⟨by show 3<=sizeLine;decide,λp hp=>?_⟩
 obtain⟨Gf,np⟩:=Y.fresh (o:=.lst [.int (s1.u.getLastD 0),.int (s1.h.getLastD 0),.non]) hp;have J:=Y.addE (r:=[.int (s1.u.getLastD 0),.int (s1.h.getLastD 0),.non]) hp;refine⟨A.a3,_,_,rfl,rfl,Gf.l3,by rw[Aa3,U,Cd];lia,?_⟩
 rw[show A.es.map V.ref++[V.ref p]=(A.es++[p]).map V.ref by simp]
 have G3:=J.set1 (s1.u++[3+(s.E.length:Int)])
 refine⟨_,rfl,g,_,_,_,_,rfl,J.i,T.D6,T.Q3,rfl,.inl ⟨rfl,_,SqL.of J.l1⟩,_,rfl,A.a1,_,_,rfl,rfl,J.l1,by rw[Aa3];show s1.u.length<sizeLine;rw[F,Cd];lia,?_⟩
 rw[show(({s1 with E:=s1.E++[[.int (s1.u.getLastD 0),.int (s1.h.getLastD 0),.non]]}:GS).u.map V.int++[V.int (3+(s.E.length:Int))])=(s1.u++[3+(s.E.length:Int)]).map V.int by simp]
 refine q _ _ (by unfold aW9;rw[M];exact G3) (D.tr (λb o X e=>?_)) λb X=>?_
 .have nb:b≠p:=λz=>by rw[z,hp]at e;cases e
  have n1:b≠A.a1:=λz=>X (by unfold GA.all;rw[z];simp)
  have n3:b≠A.a3:=λz=>X (by unfold GA.all;rw[z];simp)
  show upd (upd (upd H1 p _) A.a3 _) A.a1 _ b=_
  rw[A8 n1,A8 n3,A8 nb];exact e
 .have X:b∈A.a1::A.a2::A.a3::A.a4::(A.es++[p]):=X
  simp only[Aa1,Aa0,Ac2,or_false]at X;by_cases c:b=p
  .subst c;refine .inr (Classical.byContradiction λz=>?_)
   obtain⟨o,ho⟩:=Option.ne_none_iff_exists'.mp z
   have:=D _ _ np ho
   rw[hp]at this;cases this
  .refine .inl ?_;unfold GA.all;simp only[Aa1];rcases X with h | h | h | h | h | h
   .exact .inl h
   .exact .inr (.inl h)
   .exact .inr (.inr (.inl h))
   .exact .inr (.inr (.inr (.inl h)))
   .exact .inr (.inr (.inr (.inr h)))
   .exact absurd h c
theorem dB6 (T:Tx K mg a):FnOk P w K mg base CX0 1 a.L7 a.O3 ["self"] (dT9 a.C4):=by
 refine T.V0.ok aY3 (by rintro vs H Q E ⟨_,_,rfl,_⟩;rfl) (λcdv A' outer sh H vs Q E hr h=>?_)
 obtain⟨g,dx,rfl,hg,q⟩:=h;refine⟨_,(A6 (bI1 (pv 0) (C9 (A0 A7 A4)) rfl)
   (A6 (bI1 (pv 0) (C9 (A0 A7 A4)) rfl)
   (A6 (bI1 (pv 0) (C9 A4) rfl)
   (B0 (bI1 (pv 0) (C9 A4) rfl))))),?_⟩
 have ne:∀{H:Hp} {b:Addr} {o:HO},H g=some o->H b=none->b≠g:=λe n z=>by rw[z,e]at n;cases n
 refine⟨by decide,λN h1=>?_⟩
 have B:=ne hg h1
 refine⟨_,rfl,g,_,dx,[],rfl,by rw[A8 (Ne.symm B)];exact hg,T.D6,T.Q3,by decide,?_⟩
 refine⟨by decide,λR s=>?_⟩
 have k2:=ne B3 s
 rw[A8 k2]at s;have m:R≠N:=λz=>by rw[z,B3]at s;cases s
 rw[A8 m]at s;refine⟨_,rfl,g,_,dx,_,rfl,by rw[A8 (Ne.symm k2)];exact B3,T.D6,T.Q0,by show(1:Nat)<1000;decide,?_⟩
 refine⟨by decide,λD r=>?_⟩
 have k3:=ne B3 r
 rw[A8 k3]at r;have X:D≠R:=λz=>by rw[z,B3]at r;cases r
 rw[A8 X,A8 k3]at r;have Y:D≠N:=λz=>by rw[z,B3]at r;cases r
 rw[A8 Y]at r;refine⟨_,rfl,g,_,dx,_,rfl,by rw[A8 (Ne.symm k3)];exact B3,T.D6,T.O4,by show(2:Nat)<1000;decide,?_⟩
 refine⟨by decide,λF y=>?_⟩
 have k4:=ne B3 y
 rw[A8 k4]at y;have M:F≠D:=λz=>by rw[z,B3]at y;cases y
 rw[A8 M,A8 k4]at y;have J:F≠R:=λz=>by rw[z,B3]at y;cases y
 rw[A8 J,A8 k4]at y;have U:F≠N:=λz=>by rw[z,B3]at y;cases y
 rw[A8 U]at y;refine⟨_,rfl,g,_,dx,_,rfl,by rw[A8 (Ne.symm k4)];exact B3,T.D6,T.Y2,by show(3:Nat)<1000;decide,?_⟩
 refine q _ ⟨dx,N,R,D,F,[]⟩ ⟨B3,?_,?_,?_,?_,.nil,?_⟩ (λb o k e=>?_) (λb k=>?_) rfl
 .rw[A8 B,A8 (Ne.symm U),A8 B,A8 (Ne.symm Y),A8 B,A8 (Ne.symm m),A8 B];exact B3
 .rw[A8 k2,A8 (Ne.symm J),A8 k2,A8 (Ne.symm X),A8 k2];exact B3
 .rw[A8 k3,A8 (Ne.symm M),A8 k3];exact B3
 .rw[A8 k4];exact B3
 .show [N,R,D,F].Nodup
  simp[Ne.symm m,Ne.symm Y,Ne.symm U,Ne.symm X,Ne.symm J,Ne.symm M]
 .have nn:∀{c:Addr},H c=none->b≠c:=λn z=>by rw[z,n]at e;cases e
  rw[A8 k,A8 (nn y),A8 k,A8 (nn r),A8 k,A8 (nn s),A8 k,A8 (nn h1)];exact e
 .have k:b∈[N,R,D,F]:=k
  simp only[Aa1,Ac2,or_false]at k;rcases k with rfl | rfl | rfl | rfl
  .exact h1
  .exact s
  .exact r
  .exact y
end
end K48
namespace L2
open PySem PySem.Spec PyProof.Rows
section
variable {X:Cx}{aA:Dz}{σ:St}{H:Hp}{s:Shared}{h':Heap}
theorem Inv.turnedL {t':Nat}{fp:AK}(I:Inv X aA σ H s)(k:∀b o,b∉fp->s.heap.get? b=some o->h'.get? b=some o)(Y:∀b∈fp,FpOk X aA H b):Inv X aA σ H {s with heap:=h',toks:=t'}:=by
 have g:∀b u,H b=some u->b∉fp:=λb u e z=>by rw[(Y b z).1]at e;cases e
 refine I.step (g':=s.gens) (d':=s.drawn) (ch:=fp) (λb Q=>?_) (λb o _ _ y e _=>k b o y e) (λb o _ _ y e _=>⟨o.slots,k b o y e⟩) (λ_ _ _ _ n=>n)
  (λb o y e=>⟨o,k b o y e⟩) (λ_ _ e=>e) (λ_ _ _ e=>e) (λb ps e=>⟨#[],by rw[e];simp⟩) (λm D=>?_) (λb u e=>?_) I.bare
 .obtain⟨_,M,_,f3,N,R⟩:=Y b Q;exact⟨f3,M,N,R⟩
 .obtain⟨o,J,U,ho,r⟩:=D;exact⟨o,J,U,k _ o (λz=>(Y _ z).2.1 rfl) ho,r⟩
 .refine(I.hok b u e).stay (λc v y q=>k c v ?_ q) (λ_ q=>q) λ_ _ q=>q
  rcases y with z | z
  .rw[z];exact g b u e
  .exact g c _ z
theorem Inv.turnedLaid {t':Nat}{fp:AK}{T:Addr}{ob:HO}(I:Inv X aA σ H s)(k:∀b o,b∉fp->s.heap.get? b=some o->h'.get? b=some o)(J:∀b∈fp,FpOk X aA H b)(N:s.heap.objs.size<=T)
  (M:ObjOk X.prog X.w (upd H T ob) h' T ob):Inv X aA σ (upd H T ob) {s with heap:=h',toks:=t'}:=by
 have Y:∀b u,H b=some u->b∉fp:=λb u e z=>by rw[(J b z).1]at e;cases e
 have R:H T=none:=I.hok.fresh N
 have nT:∀b o,s.heap.get? b=some o->b≠T:=λb o e z=>by have h1:b<s.heap.objs.size:=Ab3 e;rw[z]at h1;exact absurd (Ab8 h1 N) (Ad9 _)
 have g:∀b u,H b=some u->b≠T:=λb u e z=>by rw[z,R]at e;cases e
 refine I.step (g':=s.gens) (d':=s.drawn) (ch:=fp) (λb U=>?_) (λb o _ _ y e _=>k b o y e) (λb o _ _ y e _=>⟨o.slots,k b o y e⟩) (λb o _ e n=>by rw[A8 (nT b o e)];exact n)
  (λb o y e=>⟨o,k b o y e⟩) (λb _ e=>by rw[A8 (g b _ e)];exact e) (λb _ _ e=>by rw[A8 (g b _ e)];exact e) (λb ps e=>⟨#[],by rw[A8 (g b _ e),e];simp⟩) (λm hm=>?_) (λb u e=>?_) I.bare
 .obtain⟨_,F,_,f3,B,P⟩:=J b U;exact⟨f3,F,B,P⟩
 .obtain⟨o,D,Q,ho,r⟩:=hm;exact⟨o,D,Q,k _ o (λz=>(J _ z).2.1 rfl) ho,r⟩
 .by_cases U:b=T
  .subst U;rw[B3]at e;cases e;exact M
  rw[A8 U]at e;refine(I.hok b u e).stay (λc v y q=>k c v ?_ q) (λc q=>by rw[A8 (g c _ q)];exact q) λc _ q=>by rw[A8 (g c _ q)];exact q
  rcases y with z | z
  .rw[z];exact Y b u e
  .exact Y c _ z
end
end L2
namespace LV
open PySem PySem.Spec PyProof.Rows L2
section
variable {K:Frag}{ρ:List Sl}{m:Bool}{t ta tb:TE}{d d':PyData}{ds es:AD}
def enD (ds:AD):AD:=ds.mapIdx λi d=>.tuple [.int (i:Int),d]
theorem aF4:(enD ds).length=ds.length:=by simp[enD]
theorem aJ4 {i:Nat}{d:PyData}(h:(enD ds)[i]? = some d):∃y,ds[i]? = some y/\d=.tuple [.int (i:Int),y]:=by
 unfold enD at h;rw[List.getElem?_mapIdx]at h;obtain⟨y,h1,e⟩:=Bn.mp h;exact⟨y,h1,e.symm⟩
end
end LV
namespace L2
open PySem PySem.Spec PyProof.Rows
end L2
namespace LV
open PySem PySem.Spec PyProof.Rows L2
section
variable {K:Frag}{ρ ρ':List Sl}{m:Bool}{t ta tb:TE}{d d':PyData}{ds es:AD}
theorem eF5 {K:Frag}{ρ:List Sl}(y:List Sl->Prop){c:TT}{t u:TS}{b:Bool}{R:AE}(h:LV.T K c ρ b)(h1:b=true->W K t ρ {R with nx:=y})(g:b=false->W K u ρ {R with nx:=y})(r:∀ρ',y ρ'->R.nx ρ'):W K (dB9 c t u) ρ R:=
 V4 h (λe=>(h1 e).weak r (λ_ z=>z) (λ_ z=>z) (λ_ z=>z) (λ_ z=>z)) (λe=>(g e).weak r (λ_ z=>z) (λ_ z=>z) (λ_ z=>z) (λ_ z=>z))
end
end LV
namespace L2
open PySem PySem.Spec PyProof.Rows
open PySem.Builtin PySem.Builtin.Str
theorem aI2 (x:Str)(c:Nat):∀(n a:Nat) (A:Array Nat) (fr:Nat),fr<=a->a+n=x.length+1->A.size<=a ->
  (forIn (List.range' a n) (A,fr) (StrLaws.occBody x ⟨#[c]⟩ x.length (x.length+1))).run.fst.size=A.size+(x.cps.toList.drop a).count c
 | 0,a,A,fr,h1,h2,h3=>by
  have:x.cps.toList.drop a=[]:=List.drop_eq_nil_of_le (by simp[Str.length]at h2 ⊢;lia)
  rw[this];rfl
 | n+1,a,A,fr,h1,h2,h3=>by
  rw[List.range'_succ,List.forIn_cons];unfold StrLaws.occBody;have so:=StrLaws.subAt_one x c a;by_cases y:x.cps.toList[a]? = some c
  .obtain⟨p,q⟩:=so.mpr y;have z:a<x.cps.toList.length:=(Ab0.mp y).1;have k:a+(⟨#[c]⟩:Str).length<=x.length:=p;rw[Ae (show((((A,fr):Array Nat×Nat).fst.size<x.length+1/\((A,fr):Array Nat×Nat).snd<=a)/\a+(⟨#[c]⟩:Str).length<=x.length)/\subAt x ⟨#[c]⟩ a=true from⟨⟨⟨by show A.size<_;lia,h1⟩,p⟩,q⟩)]
   have r:=aI2 x c n (a+1) (A.push a) (a+1) (Aa7 _) (by lia) (by simp;lia)
   have e:x.cps.toList.drop a=c::x.cps.toList.drop (a+1):=by
    rw[Ao z];rw[Aa2 z]at y;rw[Ab4 y]
   rw[e,List.count_cons_self];refine Eq.trans r ?_;rw[Array.size_push];lia
  .rw[Ac (show ¬(((((A,fr):Array Nat×Nat).fst.size<x.length+1/\((A,fr):Array Nat×Nat).snd<=a)/\a+(⟨#[c]⟩:Str).length<=x.length)/\subAt x ⟨#[c]⟩ a=true) from λh=>y (so.mp ⟨h.1.2,h.2⟩))]
   have r:=aI2 x c n (a+1) A fr (by lia) (by lia) (by lia)
   refine Eq.trans r ?_;by_cases z:a<x.cps.toList.length
   .rw[Ao z,List.count_cons];rw[Aa2 z]at y
    have:(x.cps.toList[a]==c)=false:=by
     cases g:(x.cps.toList[a]==c) with
     | false=>rfl
     | true=>exact absurd (congrArg some (eq_of_beq g)) y
    rw[this];rfl
   .rw[List.drop_eq_nil_of_le (by lia),List.drop_eq_nil_of_le (by lia)]
theorem dF2 (x:Str)(c:Nat):(occurrences x ⟨#[c]⟩ 0 x.length (x.length+1)).length=x.cps.toList.count c:=by
 rw[StrLaws.occ_eq,Ap,show x.length+1-0=x.length+1 from rfl,aI2 x c (x.length+1) 0 #[] 0 (Aa7 _) (by lia) (by simp)]
 simp
theorem bP8 (c:Nat):∀(n:Nat) (A:Array Nat),(List.replicate n #[c]).foldl (· ++ ·) A=A++(List.replicate n c).toArray
 | 0,A=>by simp
 | n+1,A=>by
  rw[Bh,List.foldl_cons,bP8 c n]
  apply Array.ext'
  simp[Bh]
section
variable {X:Cx}
def cA1:R2:=λx y H Q=>∃c n,x=.str ⟨#[c]⟩/\y=.int n/\(-10000<n/\n<10000)/\Q (.str ⟨(List.replicate n.toNat c).toArray⟩) H
theorem aN0:OpR X (binaryOp .Mult) cA1:=by
 intro Y s σ H x y v u Q I k m ⟨c,n,r,g,U,q⟩;subst r;subst g;obtain⟨t,rfl⟩:=k;obtain⟨J,rfl⟩:=m;refine P.mul_str ?_ ?_ ?_ ?_
 .rw[Ba (by lia),Ba (by lia)];rfl
 .intro h1 _ z;have z:(1:Int)>(2^63-1) / n:=z
  have:1<=(2^63-1:Int) / n:=(Int.le_ediv_iff_mul_le (by lia)).mpr (by lia)
  lia
 .intro _ _;show decide (1*n.toNat>sizeLine)=false;unfold sizeLine;exact Ba (by lia)
 .by_cases h1:n<1
  .rw[Ae h1];have e:n.toNat=0:=by lia
   rw[e]at q;exact⟨by decide,.str _,H,I.tok _,⟨_,rfl⟩,q⟩
  .rw[Ac h1];by_cases z:n=1
   .subst z;rw[Ae (by rfl)]
    exact⟨.str _,H,I,⟨_,rfl⟩,q⟩
   .rw[Ac (by
     have:(n==1)=false:=by simpa using z
     rw[this];show ¬((false||(1==0))=true);decide)]
    rw[bP8 c n.toNat #[],show(#[]:Array Nat)++(List.replicate n.toNat c).toArray=(List.replicate n.toNat c).toArray by simp]
    exact⟨by
     show(List.replicate n.toNat c).toArray.size<=sizeLine
     unfold sizeLine
     simp;lia,.str _,H,I.tok _,⟨_,rfl⟩,q⟩
def aO1 (x:V)(xs:List V)(H:Hp)(Q:VK):Prop:=∃(i:Str) (c:Nat),x=.str i/\xs=[.str ⟨#[c]⟩]/\Q (.int (i.cps.toList.count c:Nat)) H
theorem R4:MtR X "str.count" aO1:=by
 intro k s σ H x xs v m Q I r z ⟨i,c,e,y,q⟩;subst e;subst y;obtain⟨t,rfl⟩:=r;obtain⟨u,rfl,g,rfl⟩:=V7 z;refine call_gives F.slot_str_count (typeIs_str s i t) F.entry_str_count (F.args_str_count_2 _ _) (gives_str_count i ⟨#[c]⟩ t g) ?_;rw[dF2];exact⟨.int _,H,I.tok _,⟨_,rfl⟩,q⟩
theorem cC1:PIp X .Add (λx y H Q=>∃i j,x=.str i/\y=.str j/\i.length+j.length<=sizeLine/\Q (.str (i++j)) H):=bS7
end
end L2
namespace LV
open PySem PySem.Spec PyProof.Rows L2
def sb (w:List Bool):Str:=⟨(w.map λb=>if b=true then 117 else 100).toArray⟩
theorem U5 (w:List Bool):(sb w).length=w.length:=by unfold sb;simp[Str.length]
theorem bH1 (a b:List Bool):sb a++sb b=sb (a++b):=by
 show(⟨(sb a).cps++(sb b).cps⟩:Str)=_
 unfold sb;simp
theorem cO5:∀w:List Bool,(sb w).cps.toList.count 100=w.count false
 | []=>rfl
 | b::w=>by
  have e:=cO5 w
  unfold sb at e ⊢;simp only[Ac7,List.count_cons]at e ⊢;cases b <;> simp[List.count_cons] <;> simpa using e
theorem dP5 (n:Nat):(⟨(List.replicate n 100).toArray⟩:Str)=sb (List.replicate n false):=by unfold sb;simp
theorem eB9 (w:List Bool):PyData.strOk (sb w)=true:=by
 unfold PyData.strOk sb;simp only[List.all_toArray,List.all_map,Ac9];intro b _;cases b <;> rfl
section
variable {K:Frag}{ρ:List Sl}{m:Bool}{t ta tb:TE}{d d':PyData}{ds es:AD}
theorem bA8 {x:Str}(w:List Bool)(h:x=sb w):E K m (tC (.str x)) ρ (.str (sb w)):=h▸aH4
theorem bK3 {a b:List Bool}(e:E K false ta ρ (.str (sb a)))(z:E K false tb ρ (.str (sb b)))(k:a.length+b.length<=10000) :
  E K m (tOp (λx y H Q=>∃i j,x=.str i/\y=.str j/\i.length+j.length<=sizeLine/\Q (.str (i++j)) H) ta tb) ρ (.str (sb (a++b))):=aP6 false false e z λS H x y Q _ r g q=>by
 cases r;cases g
 refine⟨_,_,rfl,rfl,by rw[U5,U5];unfold sizeLine;lia,?_⟩
 rw[bH1];exact q _ H (L2.Same.rf _) (.str _)
theorem cO9 {n:Int}(e:E K false ta ρ (.str (sb [false])))(z:E K false tb ρ (.int n))(r : -10000<n/\n<10000):E K m (tOp cA1 ta tb) ρ (.str (sb (List.replicate n.toNat false))):=aP6 false false e z λS H x y Q _ g k q=>by
 cases g;cases k
 refine⟨100,n,rfl,rfl,r,?_⟩;rw[dP5];exact q _ H (L2.Same.rf _) (.str _)
theorem cY5 {a:List Bool}(g:E K false ta ρ (.str (sb a)))(k:E K false tb ρ (.str (sb [false]))):E K m (tBM K "str" aO1 ta (K7 tb S8)) ρ (.int (a.count false:Nat)):=E.bor (E.imm (m:=false) λS B σ H o I Q q=>g S B σ H o I _ λv y e r=>by
 cases r
 refine⟨rfl,?_⟩;refine k S B σ y o (I.grow e) _ λu z Y s=>?_
 cases s
 refine⟨_,100,rfl,rfl,?_⟩;rw[cO5];exact q _ z (L2.Same.tr e Y) (.int _))
theorem cU1 {i:Nat}{R:AE}{a b:List Bool}(hi:ρ[i]? = some (.val (.str (sb a))))(h:E K true t ρ (.str (sb b)))(X:a.length+b.length<=10000)(k:R.nx (ρ.set i (.val (.str (sb (a++b)))))) :
  W K (dU5 i t (λx y H Q=>∃i j,x=.str i/\y=.str j/\i.length+j.length<=sizeLine/\Q (.str (i++j)) H)) ρ R:=λS B D σ H o I s=>by
 obtain⟨v,z,g⟩:=I.val i _ hi;cases g;refine⟨_,z,h S B σ H o I _ λv e Y r=>?_⟩
 cases r
 refine⟨_,_,rfl,rfl,by rw[U5,U5];unfold sizeLine;lia,?_⟩
 rw[bH1];exact s.nx _ _ e o ((I.grow Y).set (m:=true) i (d:=.str (sb (a++b))) (.str _)) k
end
section
variable {X:Cx}
def dL9 (ta:TA):TE:=λσ H Q=>ta σ H λvs H1=>∃j:Int,vs=[.int j]/\∀p,H1 p=none->Q (.ref p) (upd H1 p (.rng 0 j))
theorem dI8 {a:Expr}{ta:TA}{p pos:Pos}(hg:Gl X "range")(k:X.mg "range" = none)(g:PA X [a] ta)(m:starEach [a] X.env=[(false,eval a X.env)]:=by rfl) :
  PE X (.Call (.Name "range" p) [a] [] pos) (dL9 ta):=by
 refine⟨?_⟩;intro z s σ H Q I h;refine Call_ (R9 I hg k boot_range (An (thn (g pos z s σ H _ I h) λN M ⟨vs,J,y,U,Y⟩=>?_) m rfl))
 obtain⟨j,e,q⟩:=Y;subst e;cases U with
 | cons r rr=>
  cases rr
  obtain⟨t,rfl⟩:=r;refine call_range_1 ?_;refine⟨.ref _,_,(y.tok _).laid (λb o e=>Aa6 _ e) (Aa7 _) (show ObjOk X.prog X.w _ _ _ (.rng 0 j) from⟨_,_,_,Ac3 _ rfl⟩),rfl,q _ (y.hok.fresh (Aa7 _))⟩
end
section
variable {K:Frag}{ρ:List Sl}
theorem dJ7 {t:TA}{j:Int}(X:A K false t ρ [.int j])(J : -(2^62)<=j/\j<2^62/\j<=1000000) :
  EF K (tCB (λxs H Q=>∃(r:Addr) (i j:Int),xs=[.ref r]/\H r=some (.rng i j)/\(-(2^62)<=i/\i<2^62 /\ -(2^62)<=j/\j<2^62/\j-i<=1000000)/\∀l,H l=none->Q (.ref l) (upd H l (.lst (a9 i (j-i).toNat)))) (K7 (dL9 t) S8)) ρ (P6 0 j.toNat):=λS B σ H o I Q q=>
 X S B σ H o I _ λvs U z r=>by
  cases r with
  | cons a b=>
   cases a;cases b
   refine⟨j,rfl,λp hp=>⟨p,0,j,rfl,B3,⟨by lia,by lia,by lia,by lia,by lia⟩,λl y=>?_⟩⟩
   have e:=D8 (o:=.rng 0 j) hp
   have Y:=D8 (o:=.lst (a9 0 (j-0).toNat)) y
   refine q l _ _ (L2.Same.tr z (L2.Same.tr e Y)) (T1 (L2.Same.tr z e) y) B3 ?_;have g:(j-0).toNat=j.toNat:=by rw[Int.sub_zero]
   have s:a9 0 (j-0).toNat=((List.range j.toNat).map λ(k:Nat)=>0+(k:Int)).map V.int:=by rw[g];simp[a9]
   have m:P6 0 j.toNat=((List.range j.toNat).map λ(k:Nat)=>0+(k:Int)).map PyData.int:=by simp[P6]
   rw[s,m];exact r9 _
end
end LV
namespace L2
open PySem PySem.Spec PyProof.Rows
section
variable {X:Cx}
def dU3:V->Option Int->Option Int->Hp->VK->Prop:=λx lo hi H Q=>∃(z:Str) (a b:Nat),x=.str z/\z.length<=sizeLine/\a<=b/\b<=z.length/\((lo=none/\a=0)\/lo=some (a:Int))/\((hi=none/\b=z.length)\/hi=some (b:Int))/\Q (.str ⟨((z.cps.toList.drop a).take (b-a)).toArray⟩) H
theorem cQ0 (z:Str){lo hi:Option Int}{a b:Nat}(e:a<=b)(s:b<=z.length)(h1:(lo=none/\a=0)\/lo=some (a:Int))(g:(hi=none/\b=z.length)\/hi=some (b:Int)):Builtin.Str.strSliceIndices lo hi 1 z.length=(List.range (b-a)).map (λk=>a+k):=by
 rw[<- PySem.StrLaws.strSliceIndices_plain e s];unfold Builtin.Str.strSliceIndices;have y:max (0:Int) (min (z.length:Int) (z.length:Int))=z.length:=by lia
 have r:max (0:Int) (min (0:Int) (z.length:Int))=0:=by lia
 rcases h1 with⟨rfl,rfl⟩ | rfl <;> rcases g with⟨rfl,rfl⟩ | rfl <;> simp[y,r,show ¬((z.length:Int)<0) by lia]
theorem dZ6:SlR X dU3:=by
 intro aA s σ H x v vl vu lo hi sl Q I rx hs pl pu ⟨z,a,b,B,J,m,Y,h1,g,q⟩;subst B;obtain⟨t,rfl⟩:=rx;obtain⟨l,R,y⟩:∃l:Option (Int×Tok),vl=partValue l/\l.map (·.1)=lo:=by
  cases pl with
  | none=>exact⟨none,rfl,rfl⟩
  | int i t=>exact⟨some (i,t),rfl,rfl⟩
 obtain⟨u,D,r⟩:∃u:Option (Int×Tok),vu=partValue u/\u.map (·.1)=hi:=by
  cases pu with
  | none=>exact⟨none,rfl,rfl⟩
  | int i t=>exact⟨some (i,t),rfl,rfl⟩
 refine⟨"str",_,F.slot_str_getitem.lookup,typeIs_str s z t,?_⟩;have U:s.heap.IsSlice sl l u none:=by
  obtain⟨o,h1,g,P⟩:=hs;exact⟨o,h1,g,by rw[P,R,D];rfl⟩
 refine wpAny_getItem_str_slice U rfl ?_;have M:slicePicked z l u none=(List.range (b-a)).map (λk=>a+k):=by
  unfold slicePicked;rw[y,r];exact cQ0 z m Y h1 g
 have N:((slicePicked z l u none).filterMap (z.cps[·]?))=(z.cps.toList.drop a).take (b-a):=by
  rw[M];have h:=PySem.StrLaws.picks z.cps.toList (b-a) a (by simp[Str.length]at Y ⊢;lia)
  simpa using h
 unfold sliceMade;split
 .rename_i hc;have hl:b-a=z.length:=by
   rw[M]at hc;simp at hc;exact hc
  have e:(⟨((z.cps.toList.drop a).take (b-a)).toArray⟩:Str)=z:=by
   have ha:a=0:=by lia
   subst ha
   have:b=z.cps.toList.length:=by simp[Str.length]at hl Y ⊢;lia
   rw[List.drop_zero,Nat.sub_zero,this,Cg]
  rw[e]at q;exact⟨.str _,H,I,⟨_,rfl⟩,q⟩
 .rw[N];refine⟨?_,.str _,H,I.tok _,⟨_,rfl⟩,q⟩;show((z.cps.toList.drop a).take (b-a)).toArray.size<=sizeLine;rw[Ab2,Ad1,Ay];simp only[Str.length]at J
  simp;lia
end
theorem bC5 (lo hi:Int):Builtin.Range.rangeSize lo hi (-1)=(((lo-hi).toNat:Nat):Int):=by
 unfold Builtin.Range.rangeSize;rw[Ac (by decide),show(-(-1:Int))=1 by decide,Int.ediv_one]
 split <;> lia
theorem bX8 {a b:Int}(z : -(2^40)<=a)(e:a<2^40)(r : -(2^40)<=b)(y:b<2^40):Builtin.Range.small a b (-1)=true:=by
 unfold Builtin.Range.small;rw[bC5];simp only[Builtin.Range.rangeFitsLong,Bc,Dr,Bj,beq_iff_eq,show ¬((-1:Int)>0) by decide,if_false]
 lia
end L2
namespace LV
open PySem L2
def tx (l:AB):Str:=⟨l.toArray⟩
theorem aP9 (l:AB):(tx l).length=l.length:=by simp[tx,Str.length]
theorem dU8 (a b:AB):tx a++tx b=tx (a++b):=by
 show Str.mk _=Str.mk _
 congr 1
 simp[tx]
section
variable {K:Frag}{ρ:List Sl}{m:Bool}{ta tb td:TE}{t:TA}
theorem dU0 {c:Nat}{n:Int}(e:E K false ta ρ (.str (tx [c])))(z:E K false tb ρ (.int n))(r : -10000<n/\n<10000):E K m (tOp cA1 ta tb) ρ (.str (tx (List.replicate n.toNat c))):=aP6 false false e z λS H x y Q _ g k q=>by
 cases g;cases k
 exact⟨c,n,rfl,rfl,r,q _ H (L2.Same.rf _) (.str _)⟩
theorem aC3 {a b:AB}(e:E K false ta ρ (.str (tx a)))(z:E K false tb ρ (.str (tx b)))(k:a.length+b.length<=10000) :
  E K m (tOp (λx y H Q=>∃i j,x=.str i/\y=.str j/\i.length+j.length<=sizeLine/\Q (.str (i++j)) H) ta tb) ρ (.str (tx (a++b))):=aP6 false false e z λS H x y Q _ r g q=>by
 cases r;cases g
 refine⟨_,_,rfl,rfl,by rw[aP9,aP9];unfold sizeLine;lia,?_⟩
 rw[dU8];exact q _ H (L2.Same.rf _) (.str _)
theorem eJ1 {tl th:TO}{lo hi:Option Int}{z:AB}{a b:Nat}(X:E K false ta ρ (.str (tx z)))(M:O K tl ρ lo)(J:O K th ρ hi)(D:z.length<=10000)(e:a<=b)(U:b<=z.length)(h1:(lo=none/\a=0)\/lo=some (a:Int))(Y:(hi=none/\b=z.length)\/hi=some (b:Int)) :
  E K m (tSl dU3 ta tl th) ρ (.str (tx ((z.drop a).take (b-a)))):=E.bor (E.imm (m:=false) λS B σ H o I Q q=>X S B σ H o I _ λx g y N=>M S B σ g o (I.grow y) _ λk r=>J S B σ k o ((I.grow y).grow r) _ λs R=>by
 cases N
 refine⟨tx z,a,b,rfl,by rw[aP9];unfold sizeLine;lia,e,by rw[aP9];exact U,h1,by rw[aP9];exact Y,?_⟩
 have:=q (.str (tx ((z.drop a).take (b-a)))) s (L2.Same.tr y (L2.Same.tr r R)) (.str _)
 simpa[tx]using this)
def bQ6 (i:Int)(n:Nat):AD:=(List.range n).map λ(k:Nat)=>PyData.int (i-(k:Int))
end
end LV
namespace L2
open PySem PySem.Spec PyProof.Rows
section
variable {X:Cx}{tg:Expr}
def Its (x:Str):It:=⟨λi _=>i<x.cps.size,λi H v H'=>H'=H/\∃c,x.cps[i]? = some c/\v=.str ⟨#[c]⟩,λi _=>x.cps.size<=i⟩
theorem cS9 {P:Program}{w:World}{K:Frag}{tg:Expr}(it:Addr)(x:Str)(t:Tok):bH2 P w K tg (Its x) [it] it (λi h=>h.IsStrIter it "str_ascii_iterator" x t i) where
 mem:=by simp
 obj:=λi h y b g=>by
  have e:b=it:=by simpa using g
  subst e;obtain⟨o,e,c,d⟩:=y;exact⟨o,e,λv z=>by rw[d]at z;cases z⟩
 keep:=λi h Y y k=>by
  obtain⟨o,e,r⟩:=y;exact⟨o,k it (by simp) o e,r⟩
 item:=by
  intro X D F Q hc i B s σ H E I U y hg;subst D F Q;obtain⟨J,M,f2,f3,N,R⟩:=U it (by simp)
  have hg:i<x.cps.size:=hg
  refine wpAny_pyNext_ascii_item y (c:=x.cps[i]) (by simp[hg]) λY m sb=>?_
  have I1:Inv X B σ H {s with heap:=Y,toks:=s.toks+1}:=I.turned (λb o g e=>(sb.2 b g).trans e) J M f3 N R
  obtain⟨o,e,c,d⟩:=id m;exact⟨_,rfl,cE9 (s:={s with heap:=Y,toks:=s.toks+1}) e c d (by decide) ⟨.str ⟨#[x.cps[i]]⟩,H,I1,⟨_,rfl⟩,⟨rfl,_,by simp[hg],rfl⟩,m,λb g=>(U b g).1⟩⟩
 done:=by
  intro X D F Q hc i B s σ H E I U y hg;subst D F Q;obtain⟨J,M,f2,f3,N,R⟩:=U it (by simp)
  have hg:x.cps.size<=i:=hg
  exact wpAny_pyNext_ascii_end (I.ok.hd hc) y (by simp;exact hg) λY eb=>⟨rfl,I.turned (t':=s.toks) (λb o g e=>eb b o g e) J M f3 N R⟩
 self:=λ_ _ _ _ _ y h=>wpAny_pyIter_striter_ascii y h
def eL4 (tl:TE):TI:=λσ H R=>tl σ H λv H1=>∃x:Str,v=.str x/\x.cps.all (· < 128)=true/\R (Its x) H1
theorem dQ3 {l:Expr}{tl:TE}(U:PE X l tl):PI X tg l (eL4 tl):=by
 refine⟨?_⟩;intro k s σ H R I h;refine thn (U k s σ H _ I h) λv y ⟨x,g,r,M,J⟩=>?_
 obtain⟨z,e,m,q⟩:=J;subst e;obtain⟨t,rfl⟩:=M;refine wpAny_pyIter_ascii m ?_;refine⟨y.heap.objs.size,[y.heap.objs.size],_,_,g,rfl,r.kept (t':=y.toks) λb o e=>Aa6 _ e,cS9 _ z t,⟨_,Ac3 _ rfl,rfl,rfl⟩,λb Y=>?_,q⟩
 have e:b=y.heap.objs.size:=by simpa using Y
 subst e;exact r.fpOk (Aa7 _) (r.hok.fresh (Aa7 _))
theorem bF1:∀l:List (Str×Tok),Vals ((l.map (·.1)).map V.str) (strValues l)
 | []=>.nil
 | p::l=>.cons ⟨p.2,rfl⟩ (bF1 l)
def dV0:V->List V->Hp->VK->Prop:=λx xs H Q=>∃z y:Str,x=.str z/\xs=[.str y]/\(y.length==0)=false/\z.length+2<=sizeLine/\∀a,H a=none->Q (.ref a) (upd H a (.lst ((Txt.split z y).map V.str)))
theorem dB2:MtR X "str.split" dV0:=by
 intro Y s σ H x xs v B Q I D r ⟨z,y,U,M,J,R,q⟩;subst U M;obtain⟨t,rfl⟩:=D;obtain⟨u,rfl,t',rfl⟩:=V7 r;have g:∀(l:List (Str×Tok)) (k:Nat),l.map (·.1)=Txt.split z y->EP X Y σ Q (.ref s.heap.objs.size) {s with heap:=s.heap.push {cls:=.type "list",data:=.seq (strValues l).toArray},toks:=k}:=λl k e=>by
  refine⟨.ref _,_,I.laid (t':=k) (λb o e=>Aa6 _ e) (Aa7 _) (show ObjOk X.prog X.w _ _ _ (.lst ((Txt.split z y).map V.str)) from⟨?_,strValues l,0,?_,Ac3 _ rfl⟩),rfl,q _ (I.hok.fresh (Aa7 _))⟩
  .rw[Aa3]
   have:=PyProof.Rows.split_le z y
   lia
  .rw[<- e];exact bF1 l
 have N:(Builtin.Str.partsBetween z (Builtin.Str.occurrences z y 0 z.length (z.length+1)) y.length).length<=sizeLine:=by
  have U:=StrLaws.occ_length_le z y 0 z.length (z.length+1)
  rw[length_partsBetween];lia
 cases h1:(decide (z.length<y.length)||decide (Builtin.Str.strKind z<Builtin.Str.strKind y))
 .cases m:(Builtin.Str.occurrences z y 0 z.length (z.length+1)).isEmpty
  .refine call_meets F.slot_str_split (typeIs_str _ _ _) F.entry_str_split (F.args_str_split_2 _ _) (meets_str_split_sep z y _ _ h1 J m (by lia) N) ?_
   show wants (EP X Y σ Q) X.xe _ {s with toks:=_,heap:=s.heap.push {cls:=.type "list",data:=.seq (strsFrom s.toks (Builtin.Str.partsBetween z (Builtin.Str.occurrences z y 0 z.length (z.length+1)) y.length)).toArray}}
   rw[strsFrom_eq];exact g (numbered s.toks _) _ ((numbered_texts _ _).trans ((Ac (ne_true_of_eq_false h1)).trans (Ac (ne_true_of_eq_false m))).symm)
  .exact call_meets F.slot_str_split (typeIs_str _ _ _) F.entry_str_split (F.args_str_split_2 _ _) (meets_str_split_not_found z y _ _ h1 J m) (g [(z,t)] s.toks ((Ac (ne_true_of_eq_false h1)).trans (Ae m)).symm)
 .exact call_meets F.slot_str_split (typeIs_str _ _ _) F.entry_str_split (F.args_str_split_2 _ _) (meets_str_split_cannot_occur z y _ _ h1) (g [(z,t)] s.toks (Ae h1).symm)
end
end L2
namespace LV
open PySem L2
section
variable {K:Frag}{ρ:List Sl}{m:Bool}{ta tb td:TE}{t:TA}
def sgD (l:AB):AD:=l.map λc=>PyData.str (tx [c])
theorem cR5 (c:Nat):∀{a b:AG},a≠[]->b≠[]->(∀p∈a,c∉p.cps.toList)->(∀p∈b,c∉p.cps.toList)->(Str.join ⟨#[c]⟩ a).cps.toList=(Str.join ⟨#[c]⟩ b).cps.toList->a=b:=by
 have Y:∀(x y:Str) (r:AG),(Str.join ⟨#[c]⟩ (x::y::r)).cps.toList=x.cps.toList++c::(Str.join ⟨#[c]⟩ (y::r)).cps.toList:=λx y r=>by
  show(x.cps ++ #[c]++(Str.join ⟨#[c]⟩ (y::r)).cps).toList=_
  simp
 have cut:∀{p q u v:AB},c∉p->c∉q->p++c::u=q++c::v->p=q/\u=v:=by
  intro p;induction p with
  | nil=>
   intro q u v hp k e;cases q with
   | nil=>simp at e;exact⟨rfl,e⟩
   | cons z q=>simp at e;exact absurd (by simp[e.1]) k
  | cons x p J=>
   intro q u v hp k e;cases q with
   | nil=>simp at e;exact absurd (by simp[e.1]) hp
   | cons z q=>
    simp at e hp k
    obtain⟨h1,X⟩:=J hp.2 k.2 e.2;exact⟨by rw[e.1,h1],X⟩
 have ext:∀{x y:Str},x.cps.toList=y.cps.toList->x=y:=λh=>Str.ext' (Array.toList_inj.mp h)
 intro a;induction a with
 | nil=>intro b h;exact absurd rfl h
 | cons x r J=>
  intro b _ M U g e;cases b with
  | nil=>exact absurd rfl M
  | cons y s=>
   cases r with
   | nil=>
    cases s with
    | nil=>rw[ext (x:=x) (y:=y) e]
    | cons N s=>
     rw[Y]at e;have e:x.cps.toList=y.cps.toList++c::_:=e;exact absurd (by rw[e];simp) (U x Az)
   | cons R r=>
    cases s with
    | nil=>
     rw[Y]at e;have e:x.cps.toList++c::_=y.cps.toList:=e;exact absurd (by rw[<- e];simp) (g y Az)
    | cons N s=>
     rw[Y,Y]at e;obtain⟨h1,X⟩:=cut (U x Az) (g y Az) e;rw[ext h1,J (by simp) (by simp) (λp hp=>U p (Ad4 _ hp)) (λp hp=>g p (Ad4 _ hp)) X]
theorem bW6 {c:Nat}{ws:AG}(r:ws≠[])(y:∀p∈ws,c∉p.cps.toList):Txt.split (Txt.join ⟨#[c]⟩ ws) ⟨#[c]⟩=ws:=by
 have e:Txt.join ⟨#[c]⟩ ws=Str.join ⟨#[c]⟩ ws:=StrLaws.glued_eq_join _ _
 have h:=StrLaws.join_split (Txt.join ⟨#[c]⟩ ws) ⟨#[c]⟩
 have h1:=PyProof.Rows.split_pos (Txt.join ⟨#[c]⟩ ws) ⟨#[c]⟩
 refine cR5 c (λz=>?_) r (StrLaws.split_free _ c) y (by rw[h,e])
 rw[z]at h1;cases h1
end
end LV
set_option maxHeartbeats 1000000
namespace K48
open PySem L2 LV PyProof.Rows
theorem sc_grown:D4 ["first", "second", "downs", "growth", "sign"] ["first", "second"] (C3 bK0):=⟨rfl,rfl,rfl,by decide +kernel,rfl,by decide +kernel,by decide +kernel⟩
def dX4 (s:GS):GS:={s with u:=s.u.dropLast,h:=s.h++[s.u.getLastD 0]}
def aE5 (D:AB)(b:Bool)(s:GS):GS:=if b=true then aW9 (D.getD s.E.length 0) s else dX4 s
def okS (D:AB)(b:Bool)(s:GS):Prop:=if b=true then s.E.length<D.length/\s.E.length<1000/\s.u.length<1000/\okT (3+(s.E.length:Int)) (D.getD s.E.length 0) s/\s.u≠[]/\(W7 (3+(s.E.length:Int)) (D.getD s.E.length 0) s).h≠[] else s.u≠[]/\s.h.length<1000
def S9 (D:AB):List Bool->GS->GS
 | [],s=>s
 | b::w,s=>S9 D w (aE5 D b s)
def okR (D:AB):List Bool->GS->Prop
 | [],_=>True
 | b::w,s=>okS D b s/\okR D w (aE5 D b s)
def gs0:GS:=⟨[0],[1],[],[]⟩
def gsE (D:AB)(w:List Bool):GS:=W7 2 ((S9 D w gs0).h.length-1) (S9 D w gs0)
def dH5 (C:Addr):Sp:=λvs H Q _=>∃(w1 w2:List Bool) (D:AB),vs=[.str (sb w1),.str (sb w2)]/\w1.length<=100/\w2.length<=100/\Txt.split (sb w2) (sb [true])=D.map (λn=>sb (List.replicate n false))/\(∀n∈D,n<1000) /\
 okR D w1 gs0/\okT 2 ((S9 D w1 gs0).h.length-1) (S9 D w1 gs0)/\1<=(S9 D w1 gs0).h.length/\(S9 D w1 gs0).h.length<1000 /\
 ∀H' g A,GO C H' g A (gsE D w1)->(∀b o,H b=some o->H' b=some o)->H g=none->(∀b∈A.all,H b=none)->Q (.ref g) H'
section
variable {P:Program}{w:World}{K:Frag}{mg:Str->Option Value}{base:Heap}{a:Ad}
theorem aO2 {H:Hp}{a b:Addr}{o:HO}(h:upd H a o b=none):b≠a/\H b=none:=by
 by_cases c:b=a
 .subst c;rw[B3]at h;cases h
 .rw[A8 c]at h;exact⟨c,h⟩
theorem eF9 {w:List Bool}{i c:Nat}(h:(sb w).cps[i]? = some c):∃b,w[i]? = some b/\c=if b=true then 117 else 100:=by
 unfold sb at h;simp only[List.getElem?_toArray,Aa9]at h;cases e:w[i]? with
 | none=>rw[e]at h;cases h
 | some b=>rw[e]at h;exact⟨b,rfl,(Ab4 h).symm⟩
theorem dW8 (w:List Bool):(sb w).cps.all (· < 128)=true:=by
 unfold sb;simp only[List.all_toArray,List.all_map,Ac9];intro b _;cases b <;> rfl
theorem cK3 (T:Tx K mg a):FnOk P w K mg base CX0 3 a.aV2 a.aU0 ["first", "second"] (dH5 a.C4):=by
 have m:FnOk P w K mg base CX0 1 _ _ _ _:=dB6 T
 have Y:FnOk P w K mg base CX0 1 _ _ _ _:=cC5 T
 have k:FnOk P w K mg base CX0 1 _ _ _ _:=cX1 T
 have s:FnOk P w K mg base CX0 2 _ _ _ _:=dJ5 T
 refine T.cB1.ok sc_grown (by rintro vs H Q E ⟨_,_,_,rfl,_⟩;rfl) (λcdv A' outer sh H vs Q E hr h=>?_)
 obtain⟨r,w2,D,rfl,hw1,hw2,hD,hDn,X,okt,hl1,hl2,q⟩:=h;refine⟨_,(A6 (C0 (i:=2) sc_grown.nd rfl (Or.inl rfl) (J9 PySem.F.plainAttrs_str PySem.F.slot_str_split PySem.F.type_str_split dB2 (pv 1) (A0 E7 A4)))
   (A6 (C0 (i:=3) sc_grown.nd rfl (Or.inl rfl) (cZ8 T.aR2 m (hr.mono (by decide)) rfl T.cR2 T.bB7 .nil E2))
   (A6 (G5 Aj rfl (dQ3 (pv 0)) (C5 (i:=4) sc_grown.nd rfl (Or.inl rfl)) (B0 (N5 (B9 i5 (pv 4) E7 (C7 _)) (B0 (E8 (bJ9 (pv 3) T.D6 T.aZ2 s (hr.mono (by decide)) T.bB8 .nil E2 (A0 (B8 X2 (by rfl) T.F9 Ah (A0 (B6 (ixK K) (pv 2) (B8 (T9 K) (by rfl) T.F9 Ah (A0 (R8 (pv 3) rfl) A4)) (λ_ _=>rfl)) A4)) A4)))) (B0 (E8 (cV2 (pv 3) T.D6 T.aT3 k (hr.mono (by decide)) T.aZ0 .nil E2))))))
   (A6 (E8 (bJ9 (pv 3) T.D6 T.aD3 Y (hr.mono (by decide)) T.aG4 .nil E2 (A0 (B2 L4 (B8 (T9 K) (by rfl) T.F9 Ah (A0 (R8 (pv 3) rfl) A4)) A7) (A0 A7 A4))))
   (B0 (D2 (pv 3))))))),?_⟩
 refine⟨_,rfl,rfl,_,_,rfl,rfl,rfl,by rw[U5];unfold sizeLine;lia,λJ hdl=>?_⟩
 have hD':Txt.split (sb w2) (Str.ofString "u")=D.map (λn=>sb (List.replicate n false)):=hD
 rw[hD'];intro g dx hg hdx hne;refine⟨g,dx,rfl,B3,λH1 A G same fr _=>⟨rfl,?_⟩⟩
 obtain⟨ngl,hg0⟩:=aO2 hg;obtain⟨ndl,hdx0⟩:=aO2 hdx;have l0:H1 J=some (.lst ((D.map λn=>sb (List.replicate n false)).map V.str)):=same J _ (Ne.symm ngl) (by rw[A8 (Ne.symm ngl),A8 (Ne.symm ndl)];exact B3)
 have k0:∀b o,H b=some o->H1 b=some o:=λb o e=>by
  have n1:b≠g:=λz=>by rw[z,hg0]at e;cases e
  have n2:b≠dx:=λz=>by rw[z,hdx0]at e;cases e
  have n3:b≠J:=λz=>by rw[z,hdl]at e;cases e
  exact same b o n1 (by rw[A8 n1,A8 n2,A8 n3];exact e)
 have f0:∀b∈A.all,b≠J/\H b=none:=λb B=>aO2 (aO2 (aO2 (fr b B)).2).2
 refine⟨_,rfl,_,rfl,dW8 r,λi mm σ H'=>∃A y x4,i<=r.length/\mm=r.length-i/\GO a.C4 H' g A y/\okR D (r.drop i) y/\S9 D (r.drop i) y=S9 D r gs0/\H' J=some (.lst ((D.map λn=>sb (List.replicate n false)).map V.str))/\(∀b o,H b=some o->H' b=some o)/\(∀b∈A.all,b≠J/\H b=none)/\σ=[some (.str (sb r)),some (.str (sb w2)),some (.ref J),some (.ref g),x4],⟨_,A,_,none,Cn _,rfl,G,X,rfl,l0,k0,f0,rfl⟩,?_⟩
 rintro i mm σ H' ⟨A,y,x4,hi,rfl,G,X,M,U,k',f',rfl⟩;by_cases c:i=r.length
 .left
  subst c;rw[List.drop_length]at M;refine⟨by show(sb r).cps.size<=_;have:=U5 r;unfold Str.length at this;lia,?_⟩
  have M:y=S9 D r gs0:=M
  subst M;refine⟨_,rfl,g,_,_,rfl,G.i,rfl,?_⟩;refine⟨_,rfl,g,_,_,_,_,rfl,G.i,T.D6,T.Q0,rfl,A.a2,_,rfl,.inl (SqL.of G.l2),_,1,rfl,rfl,?_⟩;rw[Aa3];refine⟨g,A,_,(S9 D r gs0).h.length-1,2,by rw[show(((S9 D r gs0).h.length-1:Nat):Int)=((S9 D r gs0).h.length:Int)-1 by lia];rfl,by lia,G,okt,λH2 G2 fr2=>?_⟩
  refine⟨_,rfl,q H2 g A G2 (λb o e=>fr2 b o (λB=>?_) (k' b o e)) hg0 λb B=>(f' b B).2⟩
  rw[(f' b B).2]at e;cases e
 right
 have hi:i<r.length:=by lia
 refine⟨by show i<(sb r).cps.size;have:=U5 r;unfold Str.length at this;lia,λσ2 H2=>∃A s2 x4,GO a.C4 H2 g A s2/\okR D (r.drop (i+1)) s2/\S9 D (r.drop (i+1)) s2=S9 D r gs0/\H2 J=some (.lst ((D.map λn=>sb (List.replicate n false)).map V.str))/\(∀b o,H b=some o->H2 b=some o)/\(∀b∈A.all,b≠J/\H b=none)/\σ2=[some (.str (sb r)),some (.str (sb w2)),some (.ref J),some (.ref g),x4],λσ2 H2 ⟨A2,s2,y4,z1,z2,z3,z4,z5,z6,z7⟩=>⟨r.length-(i+1),by lia,A2,s2,y4,by lia,rfl,z1,z2,z3,z4,z5,z6,z7⟩,?_⟩
 rintro x H2 ⟨rfl,cc,hcc,rfl⟩;obtain⟨b,B,rfl⟩:=eF9 hcc;have hb':r[i]=b:=by rw[Aa2 hi]at B;exact Ab4 B
 rw[Ao hi,hb']at X M;obtain⟨R,X⟩:=X;have M:S9 D (r.drop (i+1)) (aE5 D b y)=_:=M;cases b
 .refine⟨_,rfl,rfl,_,rfl,?_⟩;have R:y.u≠[]/\y.h.length<1000:=R;refine⟨_,rfl,g,_,_,rfl,G.i,rfl,g,A,y,rfl,G,R.1,R.2,λH3 G3 N=>?_⟩
  exact⟨A,_,_,G3,X,M,N _ _ (λz=>(f' _ z).1 rfl) U,λb o e=>N b o (λz=>by rw[(f' b z).2]at e;cases e) (k' b o e),f',rfl⟩
 .refine⟨_,rfl,rfl,_,rfl,?_⟩;obtain⟨d1,d2,d3,d4,d5,d6⟩:y.E.length<D.length/\y.E.length<1000/\y.u.length<1000/\okT (3+(y.E.length:Int)) (D.getD y.E.length 0) y/\y.u≠[]/\(W7 (3+(y.E.length:Int)) (D.getD y.E.length 0) y).h≠[]:=R;have les:A.es.length=y.E.length:=bM2 G.le;have hk:D[y.E.length]? = some (D.getD y.E.length 0):=by rw[Ac0,Aa2 d1];rfl
  have hkn:=hDn _ (Ar hk)
  replace X:okR D (r.drop (i+1)) (aW9 (D.getD y.E.length 0) y):=X
  replace M:S9 D (r.drop (i+1)) (aW9 (D.getD y.E.length 0) y)=_:=M
  generalize D.getD y.E.length 0=kk at *;refine⟨_,rfl,g,_,_,rfl,G.i,rfl,?_⟩;refine⟨_,rfl,_,rfl,g,_,_,_,_,rfl,G.i,T.D6,T.O4,rfl,A.a3,_,rfl,.inl (SqL.of G.l3),.inl ⟨J,_,_,.str (sb (List.replicate kk false)),rfl,rfl,SqL.of U,?_,?_⟩⟩
  .rw[Aa3,les];exact M3 y.E.length rfl (by rw[Aa9,Aa9,hk];rfl)
  refine⟨_,rfl,by rw[U5,Bs];unfold sizeLine;lia,?_⟩
  refine⟨g,A,y,kk,by rw[U5,Bs];rfl,hkn,d2,d3,G,d4,d5,d6,λH3 A3 G3 N fn3=>?_⟩
  refine⟨A3,_,_,G3,X,M,N _ _ (λz=>(f' _ z).1 rfl) U,λb o e=>N b o (λz=>by rw[(f' b z).2]at e;cases e) (k' b o e),λb B=>?_,rfl⟩
  rcases fn3 b B with h | h
  .exact f' b h
  .refine⟨(λz=>by rw[z,U]at h;cases h),?_⟩
   cases e:H b with
   | none=>rfl
   | some o=>rw[k' b o e]at h;cases h
end
end K48
namespace TT
def pfg (N:Nat->Int):Nat->Nat×Nat
 | 0=>(0,0)
 | j+1=>((pfg N j).1+(N j % ((j:Int)+1-(pfg N j).1)).toNat,(pfg N j).2+(N j / 64 % ((((pfg N j).1+(N j % ((j:Int)+1-(pfg N j).1)).toNat:Nat):Int)+1-(pfg N j).2)).toNat)
def rF (N:Nat->Int)(j:Nat):Nat:=(pfg N (j+1)).1
def rG (N:Nat->Int)(j:Nat):Nat:=(pfg N (j+1)).2
theorem eF0 (N:Nat->Int):∀j,pv (rF N) j=(pfg N j).1
 | 0=>rfl
 | _+1=>rfl
theorem eD9 (N:Nat->Int):∀j,pv (rG N) j=(pfg N j).2
 | 0=>rfl
 | _+1=>rfl
theorem bT3 (N:Nat->Int)(j:Nat):rF N j=(pfg N j).1+(N j % ((j:Int)+1-(pfg N j).1)).toNat:=rfl
theorem cM9 (N:Nat->Int)(j:Nat):rG N j=(pfg N j).2+(N j / 64 % ((rF N j:Int)+1-(pfg N j).2)).toNat:=rfl
theorem bH9 (N:Nat->Int):∀j,(pfg N j).1<=j/\(pfg N j).2<=(pfg N j).1/\(pfg N (j+1)).1<=j/\(pfg N (j+1)).2<=(pfg N (j+1)).1
 | j=>by
  have e:(pfg N j).1<=j/\(pfg N j).2<=(pfg N j).1:=by
   cases j with
   | zero=>exact⟨Aa7 _,Aa7 _⟩
   | succ i=>
    have:=bH9 N i
    exact⟨by lia,this.2.2.2⟩
  have h1:rF N j<=j:=by
   rw[bT3];have h:=Dc (N j) (b:=(j:Int)+1-(pfg N j).1) (by lia)
   have y:=Cq (N j) (b:=(j:Int)+1-(pfg N j).1) (by lia)
   lia
  have r:(pfg N j).1<=rF N j:=by rw[bT3];lia
  have z:rG N j<=rF N j:=by
   rw[cM9];have h:=Dc (N j / 64) (b:=(rF N j:Int)+1-(pfg N j).2) (by lia)
   have y:=Cq (N j / 64) (b:=(rF N j:Int)+1-(pfg N j).2) (by lia)
   lia
  exact⟨e.1,e.2,h1,z⟩
theorem dE6 (N:Nat->Int)(m:Nat):Rws (rF N) (rG N) m where
 f1:=λi _=>by rw[eF0,bT3];lia
 f2:=λi _=>(bH9 N i).2.2.1
 g1:=λi _=>by rw[eD9,cM9];lia
 g2:=λi _=>(bH9 N i).2.2.2
variable {F G:Nat->Nat}{m:Nat}{f:Nat->Nat}{d t:AA}
theorem dA5 (B:Bt F G m f d t){x c:Nat}(k:3<=x)(g:x<m+3)(z:c<3):∃r,t[x-3]? = some r/\r[c]? = some (og t c x):=by
 obtain⟨v,e,rfl⟩:=B.N.surj x g;have y:3<=v:=by have:=B.N.lo (by lia) e;lia
 refine⟨_,B.tr v y e,?_⟩;unfold og;rw[B.tr v y e]
 match c,z with
 | 0,_=>rfl
 | 1,_=>rfl
 | 2,_=>rfl
end TT
namespace TT
variable {F G:Nat->Nat}{m:Nat}{f:Nat->Nat}{d t:AA}
structure Lnk (s:S):Prop where
 l0:∀q x,x∈s.i0 q->3<=x/\x<s.k+3/\s.o0 x=q
 l1:∀q x,x∈s.i1 q->3<=x/\x<s.k+3/\s.o1 x=q
 l2:∀q x,x∈s.i2 q->3<=x/\x<s.k+3/\s.o2 x=q/\3<=q
theorem bE0 (R:Rws F G m):∀i,i<=m->∀q,i+3<=q->(gst F G i).i2 q=[]
 | 0,_,_,_=>rfl
 | i+1,hi,q,hq=>by
  have e:=aD9 R (i:=i) (by lia)
  have y:(gst F G i).k=i:=e.k
  show put (gst F G i).i2 ((gst F G i).k+3) _ q=[]
  rw[C2 (by lia)]
  exact bE0 R i (by lia) q (by lia)
structure Knl (s:S):Prop where
 k0:∀x,3<=x->x<s.k+3->x∈s.i0 (s.o0 x)
 k1:∀x,3<=x->x<s.k+3->x∈s.i1 (s.o1 x)
 k2:∀x,3<=x->x<s.k+3->s.o2 x≠2->x∈s.i2 (s.o2 x)
theorem cA3 {f:Nat->AB}{a q x:Nat}{l:AB}(h:x∈f q)(z:∀y∈f a,y∈l):x∈put f a l q:=by
 by_cases e:q=a
 .subst e;rw[B7];exact z x h
 .rw[C2 e];exact h
theorem bG2 (R:Rws F G m):∀i,i<=m->Knl (gst F G i)
 | 0,_=>⟨λx h1 g=>absurd g (by show ¬x<0+3;lia),λx h1 g=>absurd g (by show ¬x<0+3;lia),λx h1 g=>absurd g (by show ¬x<0+3;lia)⟩
 | i+1,hi=>by
  have L:=bG2 R i (by lia)
  have J:=aD9 R (i:=i) (by lia)
  have N:(gst F G i).k=i:=J.k
  refine⟨λx s r=>?_,λx s r=>?_,λx s r=>?_⟩
  .have r:x<(gst F G i).k+1+3:=r
   show x∈put (gst F G i).i0 (((gst F G i).path.drop (F i-pv F i)).headD 0) ((gst F G i).i0 (((gst F G i).path.drop (F i-pv F i)).headD 0)++[(gst F G i).k+3]) (put (gst F G i).o0 ((gst F G i).k+3) (((gst F G i).path.drop (F i-pv F i)).headD 0) x)
   by_cases e:x=(gst F G i).k+3
   .subst e;rw[B7,B7];simp
   .rw[C2 e];exact cA3 (L.k0 x s (by lia)) λy U=>Aq _ U
  .have r:x<(gst F G i).k+1+3:=r
   show x∈put (gst F G i).i1 ((((gst F G i).h1 (F i-pv F i)).drop (G i-pv G i)).headD 0) ((gst F G i).i1 ((((gst F G i).h1 (F i-pv F i)).drop (G i-pv G i)).headD 0)++[(gst F G i).k+3]) (put (gst F G i).o1 ((gst F G i).k+3) ((((gst F G i).h1 (F i-pv F i)).drop (G i-pv G i)).headD 0) x)
   by_cases e:x=(gst F G i).k+3
   .subst e;rw[B7,B7];simp
   .rw[C2 e];exact cA3 (L.k1 x s (by lia)) λy U=>Aq _ U
  .have r:x<(gst F G i).k+1+3:=r
   show(if x=(gst F G i).k+3 then 2 else if x∈((gst F G i).h1 (F i-pv F i)).take (G i-pv G i) then(gst F G i).k+3 else(gst F G i).o2 x)≠2->x∈put (gst F G i).i2 ((gst F G i).k+3) (((gst F G i).h1 (F i-pv F i)).take (G i-pv G i)) (if x=(gst F G i).k+3 then 2 else if x∈((gst F G i).h1 (F i-pv F i)).take (G i-pv G i) then(gst F G i).k+3 else(gst F G i).o2 x)
   by_cases e:x=(gst F G i).k+3
   .rw[Ae e];intro z;exact absurd rfl z
   .rw[Ac e];by_cases Y:x∈((gst F G i).h1 (F i-pv F i)).take (G i-pv G i)
    .rw[Ae Y,B7];exact λ_=>Y
    .rw[Ac Y];intro z;have X:=L.k2 x s (by lia) z
     by_cases M:(gst F G i).o2 x=(gst F G i).k+3
     .exfalso
      have:=bE0 R i (by lia) ((gst F G i).o2 x) (by lia)
      rw[this]at X;cases X
     .rw[C2 M];exact X
theorem X8 (R:Rws F G m):∀i,i<=m->Lnk (gst F G i)
 | 0,_=>⟨λq x h=>(nomatch h),λq x h=>(nomatch h),λq x h=>(nomatch h)⟩
 | i+1,hi=>by
  have L:=X8 R i (by lia)
  have I:=E1 R i (by lia)
  have g:=aD9 R (i:=i) (by lia)
  have Y:(gst F G i).k=i:=I.k
  refine⟨λq x h=>?_,λq x h=>?_,λq x h=>?_⟩
  .show 3<=x/\x<(gst F G i).k+1+3/\put (gst F G i).o0 ((gst F G i).k+3) _ x=q
   have h:x∈put (gst F G i).i0 (((gst F G i).path.drop (F i-pv F i)).headD 0) ((gst F G i).i0 (((gst F G i).path.drop (F i-pv F i)).headD 0)++[(gst F G i).k+3]) q:=h
   have r:x∈(gst F G i).i0 q->3<=x/\x<(gst F G i).k+1+3/\put (gst F G i).o0 ((gst F G i).k+3) (((gst F G i).path.drop (F i-pv F i)).headD 0) x=q:=λh=>by
    obtain⟨a,b,c⟩:=L.l0 q x h;exact⟨a,by lia,by rw[C2 (by lia)];exact c⟩
   by_cases e:q=((gst F G i).path.drop (F i-pv F i)).headD 0
   .subst e;rw[B7]at h;rcases Aa0.mp h with h | h
    .exact r h
    .rw[Ad8]at h;subst h;exact⟨by lia,by lia,B7⟩
   .rw[C2 e]at h;exact r h
  .show 3<=x/\x<(gst F G i).k+1+3/\put (gst F G i).o1 ((gst F G i).k+3) _ x=q
   have h:x∈put (gst F G i).i1 ((((gst F G i).h1 (F i-pv F i)).drop (G i-pv G i)).headD 0) ((gst F G i).i1 ((((gst F G i).h1 (F i-pv F i)).drop (G i-pv G i)).headD 0)++[(gst F G i).k+3]) q:=h
   have r:x∈(gst F G i).i1 q->3<=x/\x<(gst F G i).k+1+3/\put (gst F G i).o1 ((gst F G i).k+3) ((((gst F G i).h1 (F i-pv F i)).drop (G i-pv G i)).headD 0) x=q:=λh=>by
    obtain⟨a,b,c⟩:=L.l1 q x h;exact⟨a,by lia,by rw[C2 (by lia)];exact c⟩
   by_cases e:q=(((gst F G i).h1 (F i-pv F i)).drop (G i-pv G i)).headD 0
   .subst e;rw[B7]at h;rcases Aa0.mp h with h | h
    .exact r h
    .rw[Ad8]at h;subst h;exact⟨by lia,by lia,B7⟩
   .rw[C2 e]at h;exact r h
  .show 3<=x/\x<(gst F G i).k+1+3/\(if x=(gst F G i).k+3 then 2 else if x∈((gst F G i).h1 (F i-pv F i)).take (G i-pv G i) then(gst F G i).k+3 else(gst F G i).o2 x)=q/\3<=q
   have h:x∈put (gst F G i).i2 ((gst F G i).k+3) (((gst F G i).h1 (F i-pv F i)).take (G i-pv G i)) q:=h
   by_cases e:q=(gst F G i).k+3
   .subst e;rw[B7]at h;obtain⟨a,b⟩:=g.lo x h;exact⟨a,by lia,by rw[Ac (by lia),Ae h],by lia⟩
   .rw[C2 e]at h;obtain⟨a,b,c,d⟩:=L.l2 q x h;refine⟨a,by lia,?_,d⟩
    rw[Ac (by lia),Ac]
    .exact c
    .intro z;have s:x∈(gst F G i).path\/x∈(gst F G i).heap:=by
      have:=As z
      unfold S.h1 at this;rcases Aa0.mp this with y | y
      .exact .inl (As (Bv.mp y))
      .exact .inr y
     have:=(I.inv.bd x s).2 a
     lia
structure Rg (d t:AA)(n p:Nat)(a b c:AB):Prop where
 rot:∃u w,trn d p=u++w/\w++u=og t 0 p::(a++og t 1 p::(b++og t 2 p::c))
 nd:(og t 0 p::(a++og t 1 p::(b++og t 2 p::c))).Nodup
 ha:∀x∈a,3<=x/\x<n/\og t 2 x=p
 hb:∀x∈b,3<=x/\x<n/\og t 0 x=p
 hc:∀x∈c,3<=x/\x<n/\og t 1 x=p
 ka:∀x,3<=x->x<n->og t 2 x=p->x∈a
 kb:∀x,3<=x->x<n->og t 0 x=p->x∈b
 kc:∀x,3<=x->x<n->og t 1 x=p->x∈c
theorem Bt.ringv (B:Bt F G m f d t){v:Nat}(Q:3<=v)(J:v<m+3):Rg d t (m+3) (f v) (((gst F G m).i2 v).map f) (((gst F G m).i0 v).map f) (((gst F G m).i1 v).reverse.map f):=by
 have P:3<=f v:=by have:=B.N.lo (by lia) J;lia
 have I:=E1 B.R m (Aa7 _)
 have L:=X8 B.R m (Aa7 _)
 have D:=bG2 B.R m (Aa7 _)
 have X:(gst F G m).k=m:=I.k
 have hr:(gst F G m).row v=(gst F G m).o0 v::((gst F G m).i2 v++(gst F G m).o1 v::((gst F G m).i0 v++(gst F G m).o2 v::((gst F G m).i1 v).reverse)):=M7 Q (by rw[X];exact J)
 have e0:TT.og t 0 (f v)=f ((gst F G m).o0 v):=B.og (c:=0) (by lia) Q J
 have e1:TT.og t 1 (f v)=f ((gst F G m).o1 v):=B.og (c:=1) (by lia) Q J
 have e2:TT.og t 2 (f v)=f ((gst F G m).o2 v):=B.og (c:=2) (by lia) Q J
 have em:((gst F G m).row v).map f=TT.og t 0 (f v)::(((gst F G m).i2 v).map f++TT.og t 1 (f v)::(((gst F G m).i0 v).map f++TT.og t 2 (f v)::((gst F G m).i1 v).reverse.map f)):=by
  rw[hr,e0,e1,e2];simp
 have nd:(((gst F G m).row v).map f).Nodup:=aN7 B.N.inj (I.inv.nd v) λx U=>by have:=I.inv.lt v x U;lia
 refine⟨?_,?_,?_,?_,?_,λx P U e=>?_,λx P U e=>?_,λx P U e=>?_⟩
 .have ed:trn d (f v)=G4 (((gst F G m).row v).map f):=by unfold trn;rw[B.dr v J];rfl
  refine⟨(((gst F G m).row v).map f).drop ((((gst F G m).row v).map f).idxOf (mn (((gst F G m).row v).map f))),(((gst F G m).row v).map f).take ((((gst F G m).row v).map f).idxOf (mn (((gst F G m).row v).map f))),ed,?_⟩;rw[Ad3,em]
 .rw[<- em];exact nd
 .intro x U;obtain⟨y,z,rfl⟩:=Aa8.mp U;obtain⟨g,Y,M,_⟩:=L.l2 v y z;rw[X]at Y
  have:=B.N.lo (by lia) Y
  exact⟨by lia,B.N.lt y Y,by rw[B.og (c:=2) (by lia) g Y];show f ((gst F G m).o2 y)=_;rw[M]⟩
 .intro x U;obtain⟨y,z,rfl⟩:=Aa8.mp U;obtain⟨g,Y,M⟩:=L.l0 v y z;rw[X]at Y
  have:=B.N.lo (by lia) Y
  exact⟨by lia,B.N.lt y Y,by rw[B.og (c:=0) (by lia) g Y];show f ((gst F G m).o0 y)=_;rw[M]⟩
 .intro x U;obtain⟨y,z,rfl⟩:=Aa8.mp U;obtain⟨g,Y,M⟩:=L.l1 v y (Bv.mp z);rw[X]at Y
  have:=B.N.lo (by lia) Y
  exact⟨by lia,B.N.lt y Y,by rw[B.og (c:=1) (by lia) g Y];show f ((gst F G m).o1 y)=_;rw[M]⟩
 .obtain⟨y,z,rfl⟩:=B.N.surj x U;have g:3<=y:=by have:=B.N.lo (by lia) z;lia
  rw[B.og (c:=2) (by lia) g z]at e
  have ho:=(aR1 (c:=2) (s:=gst F G m) (by lia) g (by rw[X];exact z))
  have r:=I.inv.lt y _ ho
  have e':(gst F G m).o2 y=v:=B.N.inj _ _ (by rw[X]at r;exact r) J e
  have:=D.k2 y g (by rw[X];exact z) (by lia)
  rw[e']at this;exact Aa8.mpr ⟨y,this,rfl⟩
 .obtain⟨y,z,rfl⟩:=B.N.surj x U;have g:3<=y:=by have:=B.N.lo (by lia) z;lia
  rw[B.og (c:=0) (by lia) g z]at e
  have ho:=(aR1 (c:=0) (s:=gst F G m) (by lia) g (by rw[X];exact z))
  have r:=I.inv.lt y _ ho
  have e':(gst F G m).o0 y=v:=B.N.inj _ _ (by rw[X]at r;exact r) J e
  have:=D.k0 y g (by rw[X];exact z)
  rw[e']at this;exact Aa8.mpr ⟨y,this,rfl⟩
 .obtain⟨y,z,rfl⟩:=B.N.surj x U;have g:3<=y:=by have:=B.N.lo (by lia) z;lia
  rw[B.og (c:=1) (by lia) g z]at e
  have ho:=(aR1 (c:=1) (s:=gst F G m) (by lia) g (by rw[X];exact z))
  have r:=I.inv.lt y _ ho
  have e':(gst F G m).o1 y=v:=B.N.inj _ _ (by rw[X]at r;exact r) J e
  have:=D.k1 y g (by rw[X];exact z)
  rw[e']at this;exact Aa8.mpr ⟨y,Bv.mpr this,rfl⟩
end TT
namespace TT
variable {F G:Nat->Nat}{m:Nat}{f:Nat->Nat}{d t:AA}
inductive Dfs (ch:Nat->AB):Nat->AB->List Bool->AB->Prop
 | nil {n:Nat}:Dfs ch n [] [] []
 | cons {n c:Nat} {cs:AB} {w ws:List Bool} {p ps:AB}:Dfs ch n (ch c) w p->Dfs ch (n+1) cs ws ps->Dfs ch (n+1) (c::cs) (true::(w++false::ws)) (c::(p++ps))
theorem Dfs.mono {ch:Nat->AB}{n n':Nat}{l:AB}{w:List Bool}{p:AB}(h:Dfs ch n l w p):n<=n'->Dfs ch n' l w p:=by
 induction h generalizing n' with
 | nil=>exact λ_=>.nil
 | @cons n c cs w ws p ps _ _ ih1 ih2=>
  intro e;obtain⟨k,rfl⟩:∃k,n'=k+1:=⟨n'-1,by lia⟩
  exact .cons (ih1 (by lia)) (ih2 e)
theorem Dfs.app {ch:Nat->AB}{n:Nat}{l l':AB}{w w':List Bool}{p p':AB}(h:Dfs ch n l w p)(h':Dfs ch n l' w' p'):Dfs ch n (l++l') (w++w') (p++p'):=by
 induction h with
 | nil=>exact h'
 | cons a b _ e=>
  have:=Dfs.cons a (e h')
  simpa using this
theorem Dfs.split {ch:Nat->AB}{n:Nat}{l':AB}:∀{l:AB} {w:List Bool} {p:AB},Dfs ch n (l++l') w p->∃w1 w2 p1 p2,w=w1++w2/\p=p1++p2/\Dfs ch n l w1 p1/\Dfs ch n l' w2 p2
 | [],w,p,h=>⟨[],w,[],p,rfl,rfl,.nil,h⟩
 | c::l,w,p,h=>by
  cases h with
  | @cons n _ _ w ws p ps a b=>
   obtain⟨w1,w2,p1,p2,e,y,h1,z⟩:=Dfs.split b;subst e;subst y;exact⟨true::(w++false::w1),w2,c::(p++p1),p2,by simp,by simp,.cons a h1,z⟩
structure Spn (s:S):Prop where
 last:∀j y y',s.path[j]? = some y->s.path[j+1]? = some y'->∃cs,s.i0 y'=cs++[y]
def ds (n:Nat):List Bool:=List.replicate n false
theorem cY6 (a b:Nat):ds (a+b)=ds a++ds b:=by unfold ds;rw[List.replicate_append_replicate]
theorem bN5 {s:S}{a x:Nat}{i0':Nat->AB}(L:∀q x,x∈s.i0 q->3<=x/\s.o0 x=q)(SP:Spn s)(R:∃p,s.path=p++[0])(hi:∀q,q∉s.path.drop a->i0' q=s.i0 q){n:Nat}{l:AB}{w:List Bool}{p:AB}(h:Dfs s.i0 n l w p):(∀c∈l,c∉s.path.drop a)->Dfs i0' n l w p:=by
 induction h with
 | nil=>exact λ_=>.nil
 | @cons n c cs w ws p ps h1 h2 ih1 ih2=>
  intro Y;have r:=Y c (by simp)
  refine .cons ?_ (ih2 λc r=>Y c (by simp[r]))
  rw[hi c r];refine ih1 λg k N=>?_
  obtain⟨Q,J⟩:=L c g k;obtain⟨j,z⟩:=List.mem_iff_getElem?.mp N;rw[List.getElem?_drop]at z;have M:a+j<s.path.length:=(Ab0.mp z).1;have y:a+j+1<s.path.length:=by
   obtain⟨X,e⟩:=R;by_cases h:a+j+1<s.path.length
   .exact h
   .exfalso
    have Y:s.path.length=X.length+1:=by rw[e];simp
    have:s.path[a+j]? = some 0:=by rw[e,Au (by lia),show a+j-X.length=0 by lia];rfl
    rw[this]at z
    have:=Ab4 z
    lia
  obtain⟨U,e⟩:=SP.last (a+j) g _ z (Aa2 y)
  have:=(L _ g (by rw[e];simp)).2
  rw[J]at this;refine r (List.mem_iff_getElem?.mpr ⟨j+1,?_⟩);rw[List.getElem?_drop,show a+(j+1)=a+j+1 by lia,Aa2 y,<- this]
theorem cG3 {s:S}{a x y:Nat}{i0':Nat->AB}(B:∀q,(s.i0 q).Nodup)(L:∀q x,x∈s.i0 q->3<=x/\s.o0 x=q)(SP:Spn s)(pe:∃p,s.path=p++[0])(nd:s.path.Nodup)(R:s.path[a]? = some y)(hiy:i0' y=s.i0 y++[x])(N:∀q,q≠y->i0' q=s.i0 q)(hx:i0' x=[]) :
  ∀(k:Nat) (v:Nat) (n:Nat) (X:List Bool) (P:AB),s.path[a+k]? = some v->Dfs s.i0 n (s.i0 v) (X++ds (a+k)) P->∃n',Dfs i0' n' (i0' v) ((X++ds a++[true])++ds (k+1)) (P++[x])
 | 0,v,n,X,P,hv,h=>by
  have e:v=y:=by rw[Nat.add_zero,R]at hv;exact(Ab4 hv).symm
  subst e;have Q:∀q,q∉s.path.drop a->i0' q=s.i0 q:=λq hq=>N q λz=>hq (by
   subst z;exact List.mem_iff_getElem?.mpr ⟨0,by rw[List.getElem?_drop];exact R⟩)
  have h1:=bN5 (a:=a) (x:=x) L SP pe Q h λc hc hm=>by
   obtain⟨c3,ec⟩:=L v c hc;obtain⟨j,g⟩:=List.mem_iff_getElem?.mp hm;rw[List.getElem?_drop]at g;have Y:a+j<s.path.length:=(Ab0.mp g).1;have r:a+j+1<s.path.length:=by
    obtain⟨p0,e⟩:=pe;by_cases h:a+j+1<s.path.length
    .exact h
    .exfalso
     have hl:s.path.length=p0.length+1:=by rw[e];simp
     have:s.path[a+j]? = some 0:=by rw[e,Au (by lia),show a+j-p0.length=0 by lia];rfl
     rw[this]at g
     have:=Ab4 g
     lia
   obtain⟨cs',e⟩:=SP.last (a+j) c _ g (Aa2 r);have M:=(L _ c (by rw[e];simp)).2
   rw[ec]at M;have ha:a<s.path.length:=(Ab0.mp R).1;have e1:s.path[a]=v:=by rw[Aa2 ha]at R;exact Ab4 R
   have:s.path[a]=s.path[a+j+1]:=by rw[e1];exact M
   have:=(List.getElem_inj (h₀:=ha) (h₁:=r) nd).mp this
   lia
  refine⟨n+1,?_⟩;rw[hiy];have M:Dfs i0' (n+1) [x] [true,false] [x]:=by
   have:=Dfs.cons (ch:=i0') (n:=n) (c:=x) (cs:=[]) (by rw[hx];exact .nil) .nil
   simpa using this
  have:=(h1.mono (Nat.le_succ _)).app M
  have e3:ds (0+1)=[false]:=rfl
  rw[e3];simpa using this
 | k+1,v,n,X,P,hv,h=>by
  have Y:a+(k+1)<s.path.length:=(Ab0.mp hv).1
  have hu:s.path[a+k]? = some s.path[a+k]:=Aa2 (by lia)
  obtain⟨cs,J⟩:=SP.last (a+k) _ v hu hv;rw[J]at h;obtain⟨D,w2,p1,p2,e1,U,h1,M⟩:=h.split;cases M with
  | @cons n _ _ w' ws p' ps h3 h4=>
   cases h4
   have ew:∃X',w'=X'++ds (a+k)/\X=D++true::X':=by
    have e:X++ds (a+(k+1))=(D++true::w')++[false]:=by rw[e1];simp
    have e':ds (a+(k+1))=ds (a+k)++[false]:=by rw[show a+(k+1)=(a+k)+1 by lia,cY6];rfl
    rw[e',<- Ad7]at e;have U:=List.append_inj_left' e rfl;by_cases hle:w'.length<(ds (a+k)).length
    .exfalso
     have hlen:=congrArg List.length U
     simp only[Ab7,Aw]at hlen;have hg:(X++ds (a+k))[D.length]? = (D++true::w')[D.length]? := by rw[U]
     rw[Au (by lia),Au (Aa7 _),Nat.sub_self,List.getElem?_cons_zero]at hg
     have:=Ar hg
     unfold ds at this
     have:=List.eq_of_mem_replicate this
     cases this
    .have e3:D++true::w'=(D++true::w'.take (w'.length-(ds (a+k)).length))++w'.drop (w'.length-(ds (a+k)).length):=by
      rw[Ad7,Ab6,Ad3]
     rw[e3]at U;have hl2:(ds (a+k)).length=(w'.drop (w'.length-(ds (a+k)).length)).length:=by rw[Ay];lia
     have e4:=List.append_inj_left' U hl2
     have e5:=List.append_inj_right' U hl2
     exact⟨w'.take (w'.length-(ds (a+k)).length),by conv=>lhs;rw[<- Ad3 (w'.length-(ds (a+k)).length) w',<- e5],e4⟩
   obtain⟨X',rfl,rfl⟩:=ew;obtain⟨n',h5⟩:=cG3 B L SP pe nd R hiy N hx k _ n X' p' hu h3;have hvy:v≠y:=λz=>by
    subst z;have ha:a<s.path.length:=by lia
    have e1:s.path[a]=v:=by rw[Aa2 ha]at R;exact Ab4 R
    have U:s.path[a+(k+1)]=v:=by rw[Aa2 Y]at hv;exact Ab4 hv
    have:=(List.getElem_inj (h₀:=ha) (h₁:=Y) nd).mp (e1.trans U.symm)
    lia
   rw[N v hvy,J];have Q:∀q,q∉s.path.drop a->i0' q=s.i0 q:=λq hq=>N q λz=>hq (by
    subst z;exact List.mem_iff_getElem?.mpr ⟨0,by rw[List.getElem?_drop];exact R⟩)
   have h6:=bN5 (a:=a) (x:=x) L SP pe Q h1 λc hc hm=>by
    obtain⟨c3,ec⟩:=L v c (by rw[J];simp[hc])
    obtain⟨j,g⟩:=List.mem_iff_getElem?.mp hm;rw[List.getElem?_drop]at g;have hlt0:a+j<s.path.length:=(Ab0.mp g).1;have r:a+j+1<s.path.length:=by
     obtain⟨p0,e⟩:=pe;by_cases h:a+j+1<s.path.length
     .exact h
     .exfalso
      have hl:s.path.length=p0.length+1:=by rw[e];simp
      have:s.path[a+j]? = some 0:=by rw[e,Au (by lia),show a+j-p0.length=0 by lia];rfl
      rw[this]at g
      have:=Ab4 g
      lia
    obtain⟨cs',e⟩:=SP.last (a+j) c _ g (Aa2 r);have M:=(L _ c (by rw[e];simp)).2
    rw[ec]at M;have e2':s.path[a+(k+1)]=v:=by rw[Aa2 Y]at hv;exact Ab4 hv
    have:=(List.getElem_inj (h₀:=Y) (h₁:=r) nd).mp (e2'.trans M)
    have hjk:j=k:=by lia
    subst hjk;have ec':s.path[a+j]=c:=by rw[Aa2 hlt0]at g;exact Ab4 g
    have hnd:=B v
    rw[J,ec']at hnd;exact(Aa4.mp hnd).2.2 c hc c (by simp) rfl
   refine⟨max (n+1) (n'+1),?_⟩;have h7:Dfs i0' (n'+1) [s.path[a+k]] (true::((X'++ds a++[true])++ds (k+1)++[false])) (s.path[a+k]::(p'++[x])):=by
    have:=Dfs.cons (ch:=i0') (c:=s.path[a+k]) (cs:=[]) h5 .nil
    simpa using this
   have:=(h6.mono (Nat.le_max_left _ _)).app (h7.mono (Nat.le_max_right _ _))
   have e8:ds (k+1+1)=ds (k+1)++[false]:=by rw[cY6];rfl
   rw[e8,U];simpa using this
end TT
namespace TT
variable {F G:Nat->Nat}{m:Nat}{f:Nat->Nat}{d t:AA}
theorem dM0 (R:Rws F G m):∀i,i<=m->∀q,((gst F G i).i0 q).Nodup
 | 0,_,_=>List.nodup_nil
 | i+1,hi,q=>by
  have r:=dM0 R i (by lia)
  have L:=X8 R i (by lia)
  show(put (gst F G i).i0 (((gst F G i).path.drop (F i-pv F i)).headD 0) ((gst F G i).i0 (((gst F G i).path.drop (F i-pv F i)).headD 0)++[(gst F G i).k+3]) q).Nodup
  by_cases e:q=((gst F G i).path.drop (F i-pv F i)).headD 0
  .rw[e,B7];refine Aa4.mpr ⟨r _,by simp,λx g y s z=>?_⟩
   have h1:=(L.l0 _ x g).2.1
   have Y:=Ad8.mp s
   lia
  .rw[C2 e];exact r q
theorem cG5 (R:Rws F G m){i:Nat}(hi:i<=m):(gst F G i).path.Nodup:=by
 have:=(E1 R i hi).inv.nd 2
 rw[Y4]at this
 have:=(Aa4.mp this).1
 exact(List.reverse_perm _).nodup_iff.mp this
theorem cC6 (R:Rws F G m):∀i,i<=m->Spn (gst F G i)
 | 0,_=>⟨λj y s h g=>by
  have:(gst F G 0).path=[0]:=rfl
  rw[this]at g;simp at g⟩
 | i+1,hi=>by
  have D:=cC6 R i (by lia)
  have M:=aD9 R (i:=i) (by lia)
  have nd:=cG5 R (i:=i) (by lia)
  have hp:(gst F G (i+1)).path=((gst F G i).k+3)::(gst F G i).path.drop (F i-pv F i):=rfl
  have Y:(gst F G (i+1)).i0=put (gst F G i).i0 (((gst F G i).path.drop (F i-pv F i)).headD 0) ((gst F G i).i0 (((gst F G i).path.drop (F i-pv F i)).headD 0)++[(gst F G i).k+3]):=rfl
  obtain⟨z,r,U,_,_⟩:=M.px;refine⟨λj y s h g=>?_⟩
  rw[hp]at h g;rw[Y,U];show ∃cs,put (gst F G i).i0 z ((gst F G i).i0 z++[(gst F G i).k+3]) s=cs++[y];cases j with
  | zero=>
   rw[List.getElem?_cons_zero]at h;rw[Nat.zero_add,List.getElem?_cons_succ,U,List.getElem?_cons_zero]at g;have N:=Ab4 h;have Q:=Ab4 g;subst N;subst Q;exact⟨_,B7⟩
  | succ j=>
   rw[List.getElem?_cons_succ,List.getElem?_drop]at h g;have X:s≠z:=λe=>by
    have J:(gst F G i).path[F i-pv F i]? = some z:=by
     have:((gst F G i).path.drop (F i-pv F i))[0]? = some z:=by rw[U];rfl
     rwa [List.getElem?_drop,Nat.add_zero]at this
    obtain⟨B,q1⟩:=Ab0.mp g;obtain⟨P,q2⟩:=Ab0.mp J
    have:=(List.getElem_inj (h₀:=B) (h₁:=P) nd).mp (by rw[q1,q2,e])
    lia
   rw[C2 X];exact D.last (F i-pv F i+j) y s h (by rw[show F i-pv F i+j+1=F i-pv F i+(j+1) by lia];exact g)
def wrd (F:Nat->Nat):Nat->List Bool
 | 0=>[]
 | k+1=>wrd F k++ds (F k-pv F k)++[true]
theorem cA2 (R:Rws F G m):∀i,i<=m->∃n,Dfs (gst F G i).i0 n ((gst F G i).i0 0) (wrd F i++ds ((gst F G i).path.length-1)) ((List.range i).map (· + 3))
 | 0,_=>⟨0,.nil⟩
 | i+1,hi=>by
  obtain⟨n,h⟩:=cA2 R i (by lia)
  have g:=aD9 R (i:=i) (by lia)
  have I:=E1 R i (by lia)
  have L:=X8 R i (by lia)
  obtain⟨z,r,U,D,_⟩:=g.px;have N:(gst F G i).k=i:=g.k;have P:=g.a;obtain⟨y,Y⟩:=I.inv.pe;have B:(gst F G i).path.length=y.length+1:=by rw[Y];simp
  have s:(gst F G i).path[F i-pv F i]? = some z:=by
   have:((gst F G i).path.drop (F i-pv F i))[0]? = some z:=by rw[U];rfl
   rwa [List.getElem?_drop,Nat.add_zero]at this
  have e:(gst F G (i+1)).i0=put (gst F G i).i0 z ((gst F G i).i0 z++[(gst F G i).k+3]):=by
   show put (gst F G i).i0 (((gst F G i).path.drop (F i-pv F i)).headD 0) ((gst F G i).i0 (((gst F G i).path.drop (F i-pv F i)).headD 0)++[(gst F G i).k+3])=_
   rw[U];rfl
  have M:(gst F G i).path[F i-pv F i+(y.length-(F i-pv F i))]? = some 0:=by
   rw[Y,Au (by lia),show F i-pv F i+(y.length-(F i-pv F i))-y.length=0 by lia];rfl
  obtain⟨n',J⟩:=cG3 (i0':=(gst F G (i+1)).i0) (x:=i+3) (dM0 R i (by lia)) (λq x X=>⟨(L.l0 q x X).1,(L.l0 q x X).2.2⟩) (cC6 R i (by lia)) I.inv.pe (cG5 R (by lia)) s (by rw[e,B7,N]) (λq Q=>by rw[e,C2 Q]) (by rw[e,C2 (by lia)];exact g.e0) (y.length-(F i-pv F i)) 0 n (wrd F i) ((List.range i).map (· + 3)) M (by
   rw[show F i-pv F i+(y.length-(F i-pv F i))=(gst F G i).path.length-1 by lia]
   exact h)
  refine⟨n',?_⟩;have hp:(gst F G (i+1)).path.length-1=y.length-(F i-pv F i)+1:=by
   show(((gst F G i).k+3)::(gst F G i).path.drop (F i-pv F i)).length-1=_
   rw[Aw,Ay];lia
  rw[hp,Bd,Ad2];exact J
def D3 (F:Nat->Nat)(m:Nat):List Bool:=wrd F m++ds (m-pv F m)
theorem dD8 (R:Rws F G m):∃n,Dfs (gst F G m).i0 n ((gst F G m).i0 0) (D3 F m) ((List.range m).map (· + 3)):=by
 obtain⟨n,h⟩:=cA2 R m (Aa7 _)
 have:=(E1 R m (Aa7 _)).p
 unfold D3;rw[show m-pv F m=(gst F G m).path.length-1 by lia]
 exact⟨n,h⟩
theorem dS5 {r u w X Y:AB}{z:Nat}(y:r=u++w)(e:w++u=X++z::Y)(U:(X++z::Y).Nodup):r.drop (r.idxOf z+1)++r.take (r.idxOf z)=Y++X:=by
 have g:∀{a b:AB},r=a++z::b->z∉a->r.drop (r.idxOf z+1)++r.take (r.idxOf z)=b++a:=λ{a b} h N=>by
  have hi:(a++z::b).idxOf z=a.length:=by rw[List.idxOf_append,Ac N,List.idxOf_cons_self];lia
  rw[h,hi];simp
 rcases List.append_eq_append_iff.mp e with⟨c,k,s⟩ | ⟨c,k,s⟩
 .
  rw[s,Ad7]at y;rw[Ab6]at y;rw[g y (λhm=>by
   rw[k]at U
   have:=Aa4.mp U
   exact this.2.2 z (Ac1 _ hm) z (by simp) rfl),k]
  simp
 .
  cases c with
  | nil=>
   simp at k s
   subst k;rw[<- s]at y;rw[Ab6]at y;rw[g (a:=[]) (by simpa using y) (by simp)]
   simp
  | cons R c=>
   rw[Ab6]at s;obtain⟨rfl,J⟩:=List.cons.inj s;rw[k,<- Ad7]at y;rw[g y (λhm=>by
    rcases Aa0.mp hm with hm | hm
    .have:=Aa4.mp U
     have M:=Aa5.mp this.2.1
     exact M.1 (by rw[J];simp[hm])
    .have:=Aa4.mp U
     exact this.2.2 z hm z (by simp) rfl),J]
   simp
theorem Bt.chd0 (B:Bt F G m f d t){v:Nat}(v3:3<=v)(U:v<m+3):chd d t 0 (f v)=((gst F G m).i0 v).map f:=by
 have R:=B.ringv v3 U
 have P:3<=f v:=by have:=B.N.lo (by lia) U;lia
 obtain⟨u,w,X,g⟩:=R.rot;unfold chd;have M:P7 t 0 (f v)=TT.og t 1 (f v):=by unfold P7;rw[Ae P]
 have Y:=R.nd
 have k:∀q∈trn d (f v),q<m+3:=B.good.lt (f v)
 generalize ((gst F G m).i2 v).map f=A at *;generalize hB:((gst F G m).i0 v).map f=Bq at *;generalize ((gst F G m).i1 v).reverse.map f=C at *;have J:TT.og t 0 (f v)::(A++TT.og t 1 (f v)::(Bq++TT.og t 2 (f v)::C))=(TT.og t 0 (f v)::A)++TT.og t 1 (f v)::(Bq++TT.og t 2 (f v)::C):=by simp
 rw[J]at g Y;simp only;rw[M,dS5 X g Y];rw[Ad7,Cm];have Q:Bq.filter (s9 t 0 (f v))=Bq:=List.filter_eq_self.mpr λq r=>by
  obtain⟨q3,ql,e⟩:=R.hb q r;unfold s9;simp[q3,e]
 have D:((TT.og t 2 (f v)::C)++(TT.og t 0 (f v)::A)).filter (s9 t 0 (f v))=[]:=List.filter_eq_nil_iff.mpr λq r z=>by
  unfold s9 at z;simp only[Bc,Bj]at z;have y:q∈(TT.og t 0 (f v)::A)++TT.og t 1 (f v)::(Bq++TT.og t 2 (f v)::C):=by
   simp only[Aa0,Aa1]at r ⊢;grind
  have s:q∈trn d (f v):=by
   rw[<- g]at y;rw[X];rcases Aa0.mp y with h | h
   .exact Ac1 _ h
   .exact Aq _ h
  have hqb:=R.kb q z.1 (k q s) z.2
  simp only[Aa5,Aa4,Aa0,Aa1]at Y;simp only[Aa0,Aa1]at r;grind
 rw[Q,D,Bl]
theorem Bt.chd00 (B:Bt F G m f d t):chd d t 0 0=((gst F G m).i0 0).map f:=by
 have L:=X8 B.R m (Aa7 _)
 have I:=E1 B.R m (Aa7 _)
 have M:(gst F G m).k=m:=I.k
 have g:∀x∈((gst F G m).i0 0).map f,3<=x/\TT.og t 0 x=0:=λx P=>by
  obtain⟨y,hy,rfl⟩:=Aa8.mp P;obtain⟨y3,r,U⟩:=L.l0 0 y hy;rw[M]at r
  have:=B.N.lo (by lia) r
  refine⟨by lia,?_⟩
  rw[B.og (c:=0) (by lia) y3 r]
  show f ((gst F G m).o0 y)=0
  rw[U,B.N.c0]
 have X:((gst F G m).row 0).map f=1::(((gst F G m).i0 0).map f++[2]):=by
  rw[aC5];simp[B.N.c1,B.N.c2]
 have s:trn d 0=1::(((gst F G m).i0 0).map f++[2]):=by
  have h:=B.dr 0 (by lia)
  rw[B.N.c0,X]at h;unfold trn;rw[h];show G4 (1::(((gst F G m).i0 0).map f++[2]))=_;have Q:mn (([]:AB)++1::(((gst F G m).i0 0).map f++[2]))=1:=dL3 (by simp) λa ha=>by
   simp only[List.nil_append,Aa1,Aa0,Ac2,or_false]at ha;rcases ha with rfl | ha | rfl
   .lia
   .have:=(g a ha).1;lia
   .lia
  have:=aE7 (a:=[]) (z:=1) (b:=((gst F G m).i0 0).map f++[2]) (by simp) Q
  simpa using this
 unfold chd;have Y:P7 t 0 0=1:=by unfold P7;rw[Ac (by lia)]
 simp only;rw[Y,s,List.idxOf_cons_self];simp only[Nat.zero_add,List.drop_succ_cons,List.drop_zero,List.take_zero,Bl,Cm];have J:(((gst F G m).i0 0).map f).filter (s9 t 0 0)=((gst F G m).i0 0).map f:=List.filter_eq_self.mpr λq D=>by
  obtain⟨q3,e⟩:=g q D;unfold s9;simp[q3,e]
 rw[J]
 simp[s9]
theorem dC9 {ch ch':Nat->AB}{n:Nat}{l:AB}{w:List Bool}{p:AB}{g:Nat->Nat}{P:Nat->Prop}(z:∀v,P v->(∀c∈ch v,P c)/\ch' (g v)=(ch v).map g)(h:Dfs ch n l w p):(∀c∈l,P c)->Dfs ch' n (l.map g) w (p.map g):=by
 induction h with
 | nil=>exact λ_=>.nil
 | @cons n c cs w ws p ps _ _ ih1 ih2=>
  intro e;obtain⟨h1,y⟩:=z c (e c (by simp))
  have:=Dfs.cons (ch:=ch') (c:=g c) (by rw[y];exact ih1 h1) (ih2 λc r=>e c (by simp[r]))
  simpa using this
theorem Bt.dfs (B:Bt F G m f d t):∃n,Dfs (λp=>if p<m+3/\(3<=p\/p=0) then chd d t 0 p else []) n (chd d t 0 0) (D3 F m) ((List.range m).map λi=>f (i+3)):=by
 obtain⟨n,h⟩:=dD8 B.R;have L:=X8 B.R m (Aa7 _);have z:(gst F G m).k=m:=(E1 B.R m (Aa7 _)).k
 have:=dC9 (g:=f) (ch':=λp=>if p<m+3/\(3<=p\/p=0) then chd d t 0 p else []) (P:=λv=>3<=v/\v<m+3) (λv e=>⟨λc y=>by
  obtain⟨a,b,_⟩:=L.l0 v c y;rw[z]at b;exact⟨a,b⟩,by
  have:=B.N.lo (by lia) e.2
  show(if f v<m+3/\(3<=f v\/f v=0) then chd d t 0 (f v) else [])=_
  rw[Ae ⟨B.N.lt v e.2,.inl (by lia)⟩]
  exact B.chd0 e.1 e.2⟩) h λc y=>by
  obtain⟨a,b,_⟩:=L.l0 0 c y;rw[z]at b;exact⟨a,b⟩
 rw[Ae2]at this;rw[B.chd00];exact⟨n,this⟩
theorem dC7 {ch:Nat->AB}{n:Nat}{l:AB}{w:List Bool}{p:AB}(h:Dfs ch n l w p):∀(k:Nat) (W r:AB),wlk ch (k+p.length) W (l++r)=wlk ch k (W++p) r:=by
 induction h with
 | nil=>intro k W r;simp
 | @cons n c cs w ws p ps _ _ ih1 ih2=>
  intro k W r;have e:k+(c::(p++ps)).length=(k+ps.length+p.length)+1:=by simp;lia
  rw[e,Ab6];show wlk ch (k+ps.length+p.length) (W++[c]) (ch c++(cs++r))=_;rw[ih1,ih2]
  simp
end TT
namespace TT
variable {F G:Nat->Nat}{m:Nat}{f:Nat->Nat}{d t:AA}
theorem bT8 (n:Nat):(ds n).length=n:=by unfold ds;simp
theorem bY3 (n:Nat):(ds n).count false=n:=by unfold ds;simp
theorem aK9 {F:Nat->Nat}:∀i,(∀j,j<i->pv F j<=F j)->(wrd F i).count false=pv F i
 | 0,_=>rfl
 | i+1,h=>by
  have e:=aK9 i λj y=>h j (by lia)
  have:=h i (by lia)
  show(wrd F i++ds (F i-pv F i)++[true]).count false=F i
  rw[List.count_append,List.count_append,e,bY3]
  simp
  lia
theorem bJ0 {F:Nat->Nat}:∀i,(∀j,j<i->pv F j<=F j)->(wrd F i).length=pv F i+i
 | 0,_=>rfl
 | i+1,h=>by
  have e:=bJ0 i λj y=>h j (by lia)
  have:=h i (by lia)
  show(wrd F i++ds (F i-pv F i)++[true]).length=F i+(i+1)
  rw[Ab7,Ab7,e,bT8]
  simp
  lia
theorem Rws.pvF (R:Rws F G m):∀i,i<=m->pv F i<=i/\pv G i<=pv F i
 | 0,_=>⟨Aa7 _,Aa7 _⟩
 | i+1,h=>⟨Nat.le_succ_of_le (R.f2 i (by lia)),R.g2 i (by lia)⟩
theorem Y6 {F:Nat->Nat}{m:Nat}(h:∀j,j<m->pv F j<=F j)(e:pv F m<=m):(D3 F m).length=2*m:=by
 unfold D3;rw[Ab7,bJ0 m h,bT8]
 lia
theorem Dfs.len {ch:Nat->AB}{n:Nat}{l:AB}{w:List Bool}{p:AB}(h:Dfs ch n l w p):Dfs ch p.length l w p:=by
 induction h with
 | nil=>exact .nil
 | @cons n c cs w ws p ps _ _ ih1 ih2=>
  have e:(c::(p++ps)).length=(p.length+ps.length)+1:=by simp
  rw[e];exact .cons (ih1.mono (by lia)) (ih2.mono (by lia))
theorem bQ8 (F G:Nat->Nat){i:Nat}:∀j,i<j->(gst F G j).i2 (i+3)=tk F G i
 | 0,h=>absurd h (Nat.not_lt_zero _)
 | j+1,h=>by
  show put (gst F G j).i2 ((gst F G j).k+3) (tk F G j) (i+3)=_
  rw[S6];by_cases e:i=j
  .subst e;rw[B7]
  .rw[C2 (by lia)]
   exact bQ8 F G j (by lia)
theorem cP6 (R:Rws F G m){i:Nat}(hi:i<m):(tk F G i).length=G i-pv G i:=by
 have I:=E1 R i (by lia)
 have:=I.h;have:=I.p;have:=I.le;have:=I.le2
 have:=R.f1 i hi;have:=R.f2 i hi;have:=R.g1 i hi;have:=R.g2 i hi
 unfold tk S.h1;simp only[Ad1,Ab7,Ae1]
 lia
theorem Bt.cnt2 (B:Bt F G m f d t){i:Nat}(hi:i<m):(t.filter λr=>r.getD 2 0==f (i+3)).length=G i-pv G i:=by
 have R:=B.R
 have L:=X8 R m (Aa7 _)
 have Kn:=bG2 R m (Aa7 _)
 have I:=E1 R m (Aa7 _)
 have s:=I.k
 have e2:=bQ8 F G (i:=i) m hi
 rw[<- cP6 R hi,<- e2];have et:t=(List.range m).map λj=>t.getD j []:=by
  refine List.ext_getElem? λz=>?_
  rw[Aa9];by_cases hz:z<m
  .rw[List.getElem?_range hz];show t[z]? = some (t.getD z []);rw[Ac0,Aa2 (by rw[B.tl];exact hz)];rfl
  .rw[Ad6 (by rw[B.tl];lia),Ad6 (by simp;lia)];rfl
 have el:(t.filter λr=>r.getD 2 0==f (i+3)).length=((List.range m).filter λj=>(t.getD j []).getD 2 0==f (i+3)).length:=by
  rw[et,List.filter_map,Aa3,<- et];rfl
 rw[el];have inj:∀v Y,3<=v->v<m+3->3<=Y->Y<m+3->f v-3=f Y-3->v=Y:=λv Y a b c e h=>by
  have h1:=B.N.lo (by lia) b
  have h2:=B.N.lo (by lia) e
  exact B.N.inj _ _ b e (by lia)
 have rI:∀v,3<=v->v<m+3->(gst F G m).row v=_:=λv a b=>M7 a (by rw[s];exact b)
 have M:((gst F G m).i2 (i+3)).Nodup:=by
  have:=I.inv.nd (i+3)
  rw[rI (i+3) (by lia) (by lia)]at this
  simp only[Ab6,Ad7,Aa5,Aa4]at this;exact this.2.1
 have p:((List.range m).filter λj=>(t.getD j []).getD 2 0==f (i+3)).Perm (((gst F G m).i2 (i+3)).map λv=>f v-3):=by
  refine(List.perm_ext_iff_of_nodup (List.Pairwise.filter _ Cs) ?_).mpr λq=>?_
  .refine List.Pairwise.map _ (R:=λa b=>a∈(gst F G m).i2 (i+3)/\b∈(gst F G m).i2 (i+3)/\a≠b) (λa b h e=>?_) ?_
   .obtain⟨ha,hb,J⟩:=h;obtain⟨X,y,_⟩:=L.l2 _ a ha;obtain⟨b1,D,_⟩:=L.l2 _ b hb;rw[s]at y D;exact J (inj a b X y b1 D e)
   .exact List.Pairwise.and_mem.mp M
  .rw[Cp,Ab5,Aa8];constructor
   .rintro⟨hq,h⟩;obtain⟨v,g,ev⟩:=B.N.surj (q+3) (by lia)
    have Q:3<=v:=by
     have:=B.N.lo (by lia) g
     lia
    have:=B.tr v Q g
    have P:f v-3=q:=by lia
    rw[P]at this;have U:t.getD q []=[f ((gst F G m).o0 v),f ((gst F G m).o1 v),f ((gst F G m).o2 v)]:=by rw[Ac0,this];rfl
    rw[U]at h;have h:f ((gst F G m).o2 v)=f (i+3):=eq_of_beq h;have ol:(gst F G m).o2 v<m+3:=by
     have:=I.inv.lt v ((gst F G m).o2 v) (by rw[rI v Q g];simp)
     rw[s]at this;exact this
    have oe:=B.N.inj _ _ ol (by lia) h
    refine⟨v,?_,P⟩;rw[<- oe];exact Kn.k2 v Q (by rw[s];exact g) (by lia)
   .rintro⟨v,g,rfl⟩;obtain⟨X,y,a3,_⟩:=L.l2 _ v g;rw[s]at y;have hl:=B.N.lo (by lia) y
    have hlt:=B.N.lt v y
    refine⟨by lia,?_⟩
    have U:t.getD (f v-3) []=[f ((gst F G m).o0 v),f ((gst F G m).o1 v),f ((gst F G m).o2 v)]:=by rw[Ac0,B.tr v X y];rfl
    show((t.getD (f v-3) []).getD 2 0==f (i+3))=true
    rw[U,a3];show(f (i+3)==f (i+3))=true;exact beq_self_eq_true _
 rw[p.length_eq,Aa3]
end TT
namespace TT
variable {F G:Nat->Nat}{m:Nat}
theorem cC2 (F G:Nat->Nat)(i:Nat):(gst F G (i+1)).path=(i+3)::(gst F G i).path.drop (F i-pv F i):=by
 show((gst F G i).k+3)::_=_
 rw[S6]
theorem dF5 (F G:Nat->Nat)(i:Nat):(gst F G (i+1)).heap=((gst F G i).h1 (F i-pv F i)).drop (G i-pv G i):=rfl
theorem cZ9 (F G:Nat->Nat)(i:Nat):(gst F G (i+1)).o0=put (gst F G i).o0 (i+3) (((gst F G i).path.drop (F i-pv F i)).headD 0):=by
 show put (gst F G i).o0 ((gst F G i).k+3) _=_
 rw[S6]
theorem cQ6 (F G:Nat->Nat)(i:Nat):(gst F G (i+1)).o1=put (gst F G i).o1 (i+3) ((((gst F G i).h1 (F i-pv F i)).drop (G i-pv G i)).headD 0):=by
 show put (gst F G i).o1 ((gst F G i).k+3) _=_
 rw[S6]
theorem cX6 (F G:Nat->Nat)(i x:Nat):(gst F G (i+1)).o2 x=if x=i+3 then 2 else if x∈((gst F G i).h1 (F i-pv F i)).take (G i-pv G i) then i+3 else(gst F G i).o2 x:=by
 show(if x=(gst F G i).k+3 then 2 else if x∈((gst F G i).h1 (F i-pv F i)).take (G i-pv G i) then(gst F G i).k+3 else(gst F G i).o2 x)=_
 rw[S6]
theorem cY4 (F G:Nat->Nat)(p:Nat):∀i,(gst F G i).i0 p=((List.range i).map (· + 3)).filter λq=>(gst F G i).o0 q==p
 | 0=>rfl
 | i+1=>by
  have U:=cY4 F G p i
  have s:=S6 F G i
  generalize e:((gst F G i).path.drop (F i-pv F i)).headD 0=z;have y:(gst F G (i+1)).o0=put (gst F G i).o0 (i+3) z:=by rw[<- e];exact cZ9 F G i
  have r:(gst F G (i+1)).i0=put (gst F G i).i0 z ((gst F G i).i0 z++[i+3]):=by
   show put (gst F G i).i0 (((gst F G i).path.drop (F i-pv F i)).headD 0) ((gst F G i).i0 (((gst F G i).path.drop (F i-pv F i)).headD 0)++[(gst F G i).k+3])=_
   rw[e,s]
  rw[y,r,Bd,Ad2,Cm];have g:((List.range i).map (· + 3)).filter (λq=>put (gst F G i).o0 (i+3) z q==p)=(gst F G i).i0 p:=by
   rw[U];refine List.filter_congr λq Y=>?_
   obtain⟨x,X,rfl⟩:=Aa8.mp Y
   have:=Ab5.mp X
   rw[C2 (by lia)]
  rw[g];by_cases c:p=z
  .subst c;rw[B7]
   simp[B7]
  .rw[C2 c]
   simp[B7,Ne.symm c]
theorem cP9 (F G:Nat->Nat)(p:Nat):∀i,(gst F G i).i1 p=((List.range i).map (· + 3)).filter λq=>(gst F G i).o1 q==p
 | 0=>rfl
 | i+1=>by
  have U:=cP9 F G p i
  have s:=S6 F G i
  generalize e:(((gst F G i).h1 (F i-pv F i)).drop (G i-pv G i)).headD 0=z;have y:(gst F G (i+1)).o1=put (gst F G i).o1 (i+3) z:=by rw[<- e];exact cQ6 F G i
  have r:(gst F G (i+1)).i1=put (gst F G i).i1 z ((gst F G i).i1 z++[i+3]):=by
   show put (gst F G i).i1 ((((gst F G i).h1 (F i-pv F i)).drop (G i-pv G i)).headD 0) ((gst F G i).i1 ((((gst F G i).h1 (F i-pv F i)).drop (G i-pv G i)).headD 0)++[(gst F G i).k+3])=_
   rw[e,s]
  rw[y,r,Bd,Ad2,Cm];have g:((List.range i).map (· + 3)).filter (λq=>put (gst F G i).o1 (i+3) z q==p)=(gst F G i).i1 p:=by
   rw[U];refine List.filter_congr λq Y=>?_
   obtain⟨x,X,rfl⟩:=Aa8.mp Y
   have:=Ab5.mp X
   rw[C2 (by lia)]
  rw[g];by_cases c:p=z
  .subst c;rw[B7]
   simp[B7]
  .rw[C2 c]
   simp[B7,Ne.symm c]
def tks (F G:Nat->Nat):Nat->AB
 | 0=>[]
 | i+1=>tks F G i++tk F G i
theorem cG2 (R:Rws F G m){p:Nat}:∀i,i<=m->(tks F G i).filter (λq=>(gst F G m).o2 q==p+3)=if p<i then tk F G p else []
 | 0,_=>by simp[tks]
 | i+1,hi=>by
  have r:=cG2 R (p:=p) i (by lia)
  have L:=X8 R m (Aa7 _)
  have z:=bQ8 F G (i:=i) m (by lia)
  show(tks F G i++tk F G i).filter _=_
  rw[Cm,r];have ho:∀x∈tk F G i,(gst F G m).o2 x=i+3:=λx e=>(L.l2 (i+3) x (by rw[z];exact e)).2.2.1
  by_cases c:p=i
  .subst c;rw[Ac (Ad9 _),Ae (Nat.lt_succ_self _),List.nil_append];exact List.filter_eq_self.mpr λx e=>by rw[ho x e];simp
  .have:(tk F G i).filter (λq=>(gst F G m).o2 q==p+3)=[]:=List.filter_eq_nil_iff.mpr λx e=>by rw[ho x e];simp;lia
   rw[this,Bl];by_cases y:p<i
   .rw[Ae y,Ae (by lia)]
   .rw[Ac y,Ac (by lia)]
theorem bX0 (R:Rws F G m):∀i,i<=m->∀x∈tks F G i,3<=(gst F G m).o2 x/\3<=x/\x<m+3
 | 0,_,x,h=>by cases h
 | i+1,hi,x,h=>by
  rcases Aa0.mp h with h | h
  .exact bX0 R i (by lia) x h
  .have L:=X8 R m (Aa7 _)
   have:=L.l2 (i+3) x (by rw[bQ8 F G (i:=i) m (by lia)];exact h)
   rw[S6]at this
   lia
theorem dM5 (F G:Nat->Nat):∀i x,3<=x->x<i+3->(gst F G i).o2 x=2->x∈(gst F G i).path\/x∈(gst F G i).heap
 | 0,x,h3,hx,_=>by lia
 | i+1,x,h3,hx,h=>by
  have U:=S6 F G i
  have X:=dM5 F G i x h3
  generalize y:F i-pv F i=a;generalize r:G i-pv G i=b;have Y:(gst F G (i+1)).path=(i+3)::(gst F G i).path.drop a:=by rw[<- y];exact cC2 F G i
  have k:(gst F G (i+1)).heap=((gst F G i).h1 a).drop b:=by rw[<- y,<- r];rfl
  have s:(gst F G (i+1)).o2 x=if x=i+3 then 2 else if x∈((gst F G i).h1 a).take b then i+3 else(gst F G i).o2 x:=by rw[<- y,<- r];exact cX6 F G i x
  rw[Y,k];rw[s]at h;by_cases c:x=i+3
  .left;simp[c]
  .rw[Ac c]at h;by_cases e:x∈((gst F G i).h1 a).take b
   .rw[Ae e]at h;lia
   .rw[Ac e]at h;have g:x∈(gst F G i).h1 a->x∈((gst F G i).h1 a).drop b:=λz=>by
     rw[<- Ad3 b ((gst F G i).h1 a)]at z;rcases Aa0.mp z with z | z
     .exact absurd z e
     .exact z
    rcases X (by lia) h with z | z
    .rw[<- Ad3 a (gst F G i).path]at z;rcases Aa0.mp z with z | z
     .exact .inr (g (by unfold S.h1;simp[z]))
     .exact .inl (by simp[z])
    .exact .inr (g (by unfold S.h1;simp[z]))
end TT
namespace K48
open PySem L2 LV PyProof.Rows
def nJ (l:AB):AC:=l.map λ(x:Nat)=>(x:Int)
def eJ (l:AB):AC:=nJ l.reverse
theorem aL1 (x:Nat)(l:AB):eJ (x::l)=eJ l++[(x:Int)]:=by simp[eJ,nJ]
theorem bL2 (l:AB):(eJ l).length=l.length:=by simp[eJ,nJ]
theorem cH2 {x:Nat}{l:AB}:eJ (x::l)≠[]:=by rw[aL1];simp
theorem aU3 (x:Nat)(l:AB):(eJ (x::l)).getLastD 0=(x:Int):=by rw[aL1];simp
theorem bZ5 (x:Nat)(l:AB):(eJ (x::l)).dropLast=eJ l:=by rw[aL1];simp
theorem eL0 {α:Type}{n k:Nat}{f:Nat->α}{v:α}(z:k<n):((List.range n).map f).set k v=(List.range n).map λj=>if j=k then v else f j:=by
 refine List.ext_getElem? λj=>?_
 rw[List.getElem?_set];by_cases e:k=j
 .subst e;simp[z]
 .rw[Ac e];by_cases y:j<n
  .simp[y,Ne.symm e]
  .rw[Ad6 (by simp;lia),Ad6 (by simp;lia)]
theorem bK9 (e:Int):∀(l1:AB) (l2:AB) (u t:AC) (n:Nat) (f:Nat->List V),(∀j,(f j).length=3)->(∀x∈l1,3<=x/\x<n+3)->t.length+l1.length<=1000 ->
  okT e l1.length ⟨u,eJ (l1++l2),t,(List.range n).map f⟩/\W7 e l1.length ⟨u,eJ (l1++l2),t,(List.range n).map f⟩=⟨u,eJ l2,t++nJ l1,(List.range n).map λj=>if j+3∈l1 then(f j).set 2 (.int e) else f j⟩
 | [],l2,u,t,n,f,_,_,_=>⟨trivial,by simp[W7,nJ]⟩
 | x::l1,l2,u,t,n,f,h3,hl,ht=>by
  obtain⟨N,R⟩:=hl x (by simp)
  have m:((x:Int)-3).toNat=x-3:=by lia
  have k:(eJ (x::(l1++l2))).getLastD 0=(x:Int):=aU3 _ _
  have g:=bZ5 x (l1++l2)
  have r:((List.range n).map f).getD (x-3) []=f (x-3):=by
   rw[Ac0,Aa9,List.getElem?_range (by lia)];rfl
  have s:((List.range n).map f).set (x-3) ((f (x-3)).set 2 (.int e))=(List.range n).map λj=>if j=x-3 then(f (x-3)).set 2 (.int e) else f j:=eL0 (by lia)
  have Y:t.length+(l1.length+1)<=1000:=ht
  obtain⟨U,J⟩:=bK9 e l1 l2 u (t++[(x:Int)]) n (λj=>if j=x-3 then(f (x-3)).set 2 (.int e) else f j) (λj=>by by_cases c:j=x-3 <;> simp[c,h3]) (λy X=>hl y (by simp[X])) (by simp;lia)
  constructor
  .show eJ (x::(l1++l2))≠[]/\_
   refine⟨cH2,?_⟩;rw[show((⟨u,eJ (x::l1++l2),t,(List.range n).map f⟩:GS).h.getLastD 0)=(x:Int) from k,m]
   refine⟨by lia,by simp;lia,?_,by show t.length<1000;lia,?_⟩
   .show(((List.range n).map f).getD (x-3) []).length=3
    rw[r,h3]
   .show okT e l1.length ⟨u,(eJ (x::(l1++l2))).dropLast,t++[(x:Int)],((List.range n).map f).set (x-3) ((((List.range n).map f).getD (x-3) []).set 2 (.int e))⟩
    rw[g,r,s];exact U
  .show W7 e l1.length _=_
   rw[show((⟨u,eJ (x::l1++l2),t,(List.range n).map f⟩:GS).h.getLastD 0)=(x:Int) from k,m]
   show W7 e l1.length ⟨u,(eJ (x::(l1++l2))).dropLast,t++[(x:Int)],((List.range n).map f).set (x-3) ((((List.range n).map f).getD (x-3) []).set 2 (.int e))⟩=_
   rw[g,r,s,J]
   congr 1
   .simp[nJ]
   .refine Ax λj M=>?_
    by_cases c:j=x-3
    .subst c
     have:x-3+3=x:=by lia
     by_cases z:x-3+3∈l1 <;> simp[z,this,List.set_set]
    .have:j+3≠x:=by lia
     by_cases z:j+3∈l1 <;> simp[c,z,this]
theorem aP3 (D:AB)(t:AC)(E:List (List V))(w:List Bool):∀(p1 p2 h:AB),h.length+p1.length<1000 ->
  (okR D (TT.ds p1.length++w) ⟨eJ (p1++p2),eJ h,t,E⟩↔okR D w ⟨eJ p2,eJ (p1.reverse++h),t,E⟩)/\S9 D (TT.ds p1.length++w) ⟨eJ (p1++p2),eJ h,t,E⟩=S9 D w ⟨eJ p2,eJ (p1.reverse++h),t,E⟩
 | [],p2,h,_=>⟨Iff.rfl,rfl⟩
 | x::p1,p2,h,y=>by
  have y:h.length+(p1.length+1)<1000:=y
  obtain⟨r,k⟩:=aP3 D t E w p1 p2 (x::h) (by simp;lia)
  have e:aE5 D false ⟨eJ (x::p1++p2),eJ h,t,E⟩=⟨eJ (p1++p2),eJ (x::h),t,E⟩:=by
   show(⟨(eJ (x::(p1++p2))).dropLast,eJ h++[(eJ (x::(p1++p2))).getLastD 0],t,E⟩:GS)=_
   rw[bZ5,aU3,aL1]
  have ok:okS D false ⟨eJ (x::p1++p2),eJ h,t,E⟩:=⟨cH2,by show(eJ h).length<1000;rw[bL2];lia⟩
  have g:(x::p1).reverse++h=p1.reverse++(x::h):=by simp
  rw[g];constructor
  .show(okS D false _/\okR D (TT.ds p1.length++w) (aE5 D false ⟨eJ (x::p1++p2),eJ h,t,E⟩))↔_
   rw[e];exact⟨λz=>r.mp z.2,λz=>⟨ok,r.mpr z⟩⟩
  .show S9 D (TT.ds p1.length++w) (aE5 D false ⟨eJ (x::p1++p2),eJ h,t,E⟩)=_
   rw[e];exact k
def o6 (F G:Nat->Nat)(i j:Nat):List V:=[.int ((TT.gst F G i).o0 (j+3):Nat),.int ((TT.gst F G i).o1 (j+3):Nat),if(TT.gst F G i).o2 (j+3)=2 then .non else .int ((TT.gst F G i).o2 (j+3):Nat)]
def bT6 (F G:Nat->Nat)(i:Nat):GS:=⟨eJ (TT.gst F G i).path,eJ (TT.gst F G i).heap,nJ (TT.tks F G i),(List.range i).map (o6 F G i)⟩
theorem cY8 (l:AB):(nJ l).length=l.length:=by simp[nJ]
theorem aM3 {F G:Nat->Nat}{m:Nat}(R:TT.Rws F G m):∀i,i<=m->(TT.tks F G i).length=TT.pv G i
 | 0,_=>rfl
 | i+1,hi=>by
  have e:=aM3 R i (by lia)
  have:=R.g1 i (by lia)
  show(TT.tks F G i++TT.tk F G i).length=G i
  rw[Ab7,e,TT.cP6 R (by lia)]
  lia
theorem dI1 {F G:Nat->Nat}{m i:Nat}{D:AB}(R:TT.Rws F G m)(hm:m<=100)(hi:i<m)(U:D[i]? = some (G i-TT.pv G i)) :
  okS D true ⟨eJ ((TT.gst F G i).path.drop (F i-TT.pv F i)),eJ ((TT.gst F G i).h1 (F i-TT.pv F i)),nJ (TT.tks F G i),(List.range i).map (o6 F G i)⟩ /\
  aE5 D true ⟨eJ ((TT.gst F G i).path.drop (F i-TT.pv F i)),eJ ((TT.gst F G i).h1 (F i-TT.pv F i)),nJ (TT.tks F G i),(List.range i).map (o6 F G i)⟩=bT6 F G (i+1):=by
 have e:=TT.aD9 R hi
 obtain⟨x,r,hp,hx,_⟩:=e.px;obtain⟨y,z,g,hy,_⟩:=e.hy;have lo:=e.lo;have tl:=aM3 R i (by lia)
 have g1:=R.g1 i hi
 have g2:=R.g2 i hi
 have f2:=R.f2 i hi
 have pl:=e.pl
 have hb:=e.b
 have X:D.getD i 0=G i-TT.pv G i:=by rw[Ac0,U];rfl
 have iD:i<D.length:=(Ab0.mp U).1
 have lt:(((TT.gst F G i).h1 (F i-TT.pv F i)).take (G i-TT.pv G i)).length=G i-TT.pv G i:=by rw[Ad1];lia
 have P:eJ ((TT.gst F G i).h1 (F i-TT.pv F i))=eJ (((TT.gst F G i).h1 (F i-TT.pv F i)).take (G i-TT.pv G i)++(y::z)):=by rw[<- g,Ad3]
 obtain⟨J,Y⟩:=bK9 (3+(i:Int)) (((TT.gst F G i).h1 (F i-TT.pv F i)).take (G i-TT.pv G i)) (y::z) (eJ (x::r)) (nJ (TT.tks F G i)) i (o6 F G i) (λ_=>rfl) lo (by rw[cY8,tl,lt];lia)
 rw[lt]at J Y;rw[hp,P];have le:((List.range i).map (o6 F G i)).length=i:=by simp
 constructor
 .show _/\_
  rw[le,X,Y];refine⟨iD,by lia,?_,J,cH2,cH2⟩
  show(eJ (x::r)).length<1000
  rw[bL2,<- hp,Ay];lia
 .show aW9 (D.getD ((List.range i).map (o6 F G i)).length 0) _=_
  rw[le,X];unfold aW9 bT6;rw[show(3+(((⟨eJ (x::r),eJ (((TT.gst F G i).h1 (F i-TT.pv F i)).take (G i-TT.pv G i)++(y::z)),nJ (TT.tks F G i),(List.range i).map (o6 F G i)⟩:GS).E.length:Nat):Int))=3+(i:Int) by rw[le],Y]
  have Q:eJ (TT.gst F G (i+1)).path=eJ (x::r)++[3+(i:Int)]:=by
   rw[TT.cC2,hp,aL1,show((i+3:Nat):Int)=3+(i:Int) by lia]
  have M:eJ (TT.gst F G (i+1)).heap=eJ (y::z):=by rw[TT.dF5,g]
  have N:nJ (TT.tks F G (i+1))=nJ (TT.tks F G i)++nJ (((TT.gst F G i).h1 (F i-TT.pv F i)).take (G i-TT.pv G i)):=by
   show nJ (TT.tks F G i++TT.tk F G i)=_
   simp[nJ,TT.tk]
  rw[Q,M,N];have k:(List.range (i+1)).map (o6 F G (i+1))=((List.range i).map λj=>if j+3∈((TT.gst F G i).h1 (F i-TT.pv F i)).take (G i-TT.pv G i) then(o6 F G i j).set 2 (.int (3+(i:Int))) else o6 F G i j)++[[.int ((eJ (x::r)).getLastD 0),.int ((eJ (y::z)).getLastD 0),.non]]:=by
   rw[Bd,Ad2]
   congr 1
   .refine Ax λj B=>?_
    have:=Ab5.mp B
    have s:j+3≠i+3:=by lia
    unfold o6;rw[TT.cZ9,TT.cQ6,TT.C2 s,TT.C2 s,TT.cX6,Ac s];by_cases c:j+3∈((TT.gst F G i).h1 (F i-TT.pv F i)).take (G i-TT.pv G i)
    .rw[Ae c,Ae c,Ac (by lia),show((i+3:Nat):Int)=3+(i:Int) by lia]
     rfl
    .rw[Ac c,Ac c]
   .unfold o6;rw[List.map_singleton,TT.cZ9,TT.cQ6,TT.B7,TT.B7,TT.cX6,Ae rfl,hp,g,aU3,aU3];rfl
  rw[k]
theorem dA0 {F G:Nat->Nat}{m:Nat}{D:AB}(R:TT.Rws F G m)(g:m<=100)(r:∀i,i<m->D[i]? = some (G i-TT.pv G i)):∀i,i<=m->∀w,(okR D (TT.wrd F i++w) gs0↔okR D w (bT6 F G i))/\S9 D (TT.wrd F i++w) gs0=S9 D w (bT6 F G i)
 | 0,_,w=>⟨Iff.rfl,rfl⟩
 | i+1,hi,w=>by
  obtain⟨U,J⟩:=dA0 R g r i (by lia) (TT.ds (F i-TT.pv F i)++(true::w))
  have e:=TT.aD9 R (i:=i) (by lia)
  have I:=TT.E1 R i (by lia)
  have X:TT.wrd F (i+1)++w=TT.wrd F i++(TT.ds (F i-TT.pv F i)++(true::w)):=by
   show(TT.wrd F i++TT.ds (F i-TT.pv F i)++[true])++w=_
   simp
  have lt:((TT.gst F G i).path.take (F i-TT.pv F i)).length=F i-TT.pv F i:=by rw[Ad1];have:=e.a;lia
  have:=I.h
  have:=I.le
  have:=e.pl
  have:=e.a
  obtain⟨k,s⟩:=aP3 D (nJ (TT.tks F G i)) ((List.range i).map (o6 F G i)) (true::w) ((TT.gst F G i).path.take (F i-TT.pv F i)) ((TT.gst F G i).path.drop (F i-TT.pv F i)) (TT.gst F G i).heap (by rw[lt];lia)
  rw[lt,Ad3]at k s;obtain⟨Y,y⟩:=dI1 R g (by lia) (r i (by lia))
  rw[X,J];refine⟨U.trans (k.trans ?_),s.trans ?_⟩
  .show(okS D true _/\okR D w (aE5 D true _))↔_
   rw[show aE5 D true ⟨eJ ((TT.gst F G i).path.drop (F i-TT.pv F i)),eJ (((TT.gst F G i).path.take (F i-TT.pv F i)).reverse++(TT.gst F G i).heap),nJ (TT.tks F G i),(List.range i).map (o6 F G i)⟩=bT6 F G (i+1) from y]
   exact⟨λz=>z.2,λz=>⟨Y,z⟩⟩
  .show S9 D w (aE5 D true _)=_
   rw[show aE5 D true ⟨eJ ((TT.gst F G i).path.drop (F i-TT.pv F i)),eJ (((TT.gst F G i).path.take (F i-TT.pv F i)).reverse++(TT.gst F G i).heap),nJ (TT.tks F G i),(List.range i).map (o6 F G i)⟩=bT6 F G (i+1) from y]
theorem dJ6 {F G:Nat->Nat}{m:Nat}{D:AB}(R:TT.Rws F G m)(hm:m<=100)(hD:∀i,i<m->D[i]? = some (G i-TT.pv G i)){p h:AB}(s:(TT.gst F G m).path=p++[0])(g:(TT.gst F G m).heap=h++[1]) :
  okR D (TT.D3 F m) gs0/\(S9 D (TT.D3 F m) gs0).h.length=(p.reverse++h).length+1/\okT 2 (p.reverse++h).length (S9 D (TT.D3 F m) gs0) /\
  gsE D (TT.D3 F m)=⟨[0],[1],nJ (TT.tks F G m++(p.reverse++h)),(List.range m).map λj=>[.int ((TT.gst F G m).o0 (j+3):Nat),.int ((TT.gst F G m).o1 (j+3):Nat),.int ((TT.gst F G m).o2 (j+3):Nat)]⟩:=by
 have I:=TT.E1 R m (Aa7 _)
 have P:=I.p
 have B:=I.h
 have il:=I.le
 have il2:=I.le2
 have tl:=aM3 R m (Aa7 _)
 have lp:p.length=m-TT.pv F m:=by rw[s]at P;simp at P;lia
 have lh:h.length+TT.pv G m=TT.pv F m:=by rw[g]at B;simp at B;lia
 obtain⟨U,J⟩:=dA0 R hm hD m (Aa7 _) (TT.ds (m-TT.pv F m)++[]);obtain⟨l1,l2⟩:=aP3 D (nJ (TT.tks F G m)) ((List.range m).map (o6 F G m)) [] p [0] (TT.gst F G m).heap (by lia)
 have e1:TT.wrd F m++(TT.ds (m-TT.pv F m)++[])=TT.D3 F m:=by rw[Bl];rfl
 rw[e1]at U J;rw[<- lp]at U J;have eg:bT6 F G m=⟨eJ (p++[0]),eJ (TT.gst F G m).heap,nJ (TT.tks F G m),(List.range m).map (o6 F G m)⟩:=by unfold bT6;rw[s]
 rw[eg]at U J;have X:S9 D (TT.D3 F m) gs0=⟨eJ [0],eJ ((p.reverse++h)++[1]),nJ (TT.tks F G m),(List.range m).map (o6 F G m)⟩:=by
  rw[J,l2,g,<- Ad7];rfl
 have Y:=I.inv.lt 2
 have y:=I.inv.nd 2
 have N:=I.inv.bd
 have e2:(TT.gst F G m).row 2=0::((p.reverse++h)++[1]):=by rw[TT.Y4,s,g];simp
 rw[e2]at Y y;have mem:∀x∈p.reverse++h,x∈(TT.gst F G m).path\/x∈(TT.gst F G m).heap:=λx r=>(Aa0.mp r).imp (λz=>by rw[s];exact Aq _ (Bv.mp z)) λz=>by rw[g];exact Aq _ z
 have M:∀x∈p.reverse++h,3<=x/\x<m+3:=λx r=>by
  have hl:=Y x (by simp only[Aa1,Aa0];exact .inr (.inl (Aa0.mp r)))
  rw[I.k]at hl;have n0:x≠0:=λz=>(Aa5.mp y).1 (by rw[<- z];exact Aq _ r)
  have n1:x≠1:=λz=>(Aa4.mp (Aa5.mp y).2).2.2 x r 1 (by simp) z
  have n2:=(N x (mem x r)).1
  lia
 obtain⟨p1,p2⟩:=bK9 2 (p.reverse++h) [1] (eJ [0]) (nJ (TT.tks F G m)) m (o6 F G m) (λ_=>rfl) M (by rw[cY8,tl,Ab7,Ae1];lia)
 refine⟨U.mpr (l1.mpr trivial),?_,?_,?_⟩
 .rw[X];show(eJ _).length=_;rw[bL2,Ab7];rfl
 .rw[X];exact p1
 .unfold gsE;have ll:(S9 D (TT.D3 F m) gs0).h.length-1=(p.reverse++h).length:=by rw[X];show(eJ _).length-1=_;rw[bL2];simp
  rw[ll,X,p2]
  congr 1
  .simp[nJ]
  .refine Ax λj Q=>?_
   have Q:=Ab5.mp Q
   unfold o6;by_cases c:(TT.gst F G m).o2 (j+3)=2
   .have e:j+3∈p.reverse++h:=by
     have:=TT.dM5 F G m (j+3) (by lia) (by lia) c
     rw[s,g]at this;rcases this with z | z
     .simp at z
      exact Aq _ (Bv.mpr z)
     .simp at z
      exact Ac1 _ z
    rw[Ae e,c];rfl
   .have e:j+3∉p.reverse++h:=λz=>c ((N (j+3) (mem _ z)).2 (by lia))
    rw[Ac e,Ac c]
end K48
namespace L2
open PySem PySem.Spec PyProof.Rows
abbrev bmV:AF:=[.type "ValueError",.type "Exception",.type "BaseException",.type "object"]
open Sem (wp)
end L2
namespace L2
open PySem PySem.Spec PyProof.Rows
abbrev Cx.markd (X:Cx)(e:Value):Cx:={X with A:=X.A.mark (some e),calm:=false,xe:=λ_ _=>False}
abbrev cxU (P:Program)(w:World)(K:Frag)(mg:Str->Option Value)(base:Heap)(N:AG)(qual:Str)(scope:Scope)(f:Addr)(cd:Value)(A:Around)(outer:List Env)(s:Shared)(H:Hp)(E:XK):Cx:=
 {bX5 CX0 P w K mg base N qual scope f cd A outer s H E with calm:=false,xe:=λ_ _=>False}
end L2
namespace LV
open PySem PySem.Spec PyProof.Rows L2
end LV
namespace PySem
open PySem.Spec PyProof.Rows PySem.W
end PySem
namespace L2
open PySem PySem.Spec PyProof.Rows PySem.W
end L2
namespace LV
open PySem L2
open Att PyProof.Rows PySem.Calls PySem.Spec PySem.W
end LV
namespace L2
open PySem PySem.Spec PySem.W PyProof.Rows
end L2
namespace L2
open PySem PySem.Spec PyProof.Rows
end L2
namespace LV
open PySem PySem.Spec PyProof.Rows L2
section
variable {K:Frag}{H:Hp}
theorem dZ3 {d:PyData}{v:V}:sV d=some v->Rep K H v d:=λh=>by
 cases d <;> simp[sV]at h <;> subst h <;> constructor
theorem cC9:∀{ds:AD} {xs:List V},xs.map some=ds.map sV->Reps K H xs ds
 | [],[],_=>.nil
 | [],_::_,h=>by simp at h
 | _::_,[],h=>by simp at h
 | d::ds,x::xs,h=>by
  simp only[Ac7,Ce]at h;exact .cons (dZ3 h.1.symm) (cC9 h.2)
theorem dX3 {C:Addr}{fs:List (Str×PyData)}{v:V}(r:Rep K H v (igD C fs)):∃a dx vs,v=.ref a/\H a=some (.ins C dx vs)/\GdF K H vs fs:=by
 unfold igD at r;generalize g:(fs.map λx=>((PyData.str x.1,x.2):PyData×PyData))=L at r
 cases r with
 | dic _ _ z=>exact absurd z (by rename_i kvs;cases kvs <;> simp[dX5])
 | @ing a _ dx vs fs' e r=>
  have inj:∀(u v:List (Str×PyData)),(u.map λx=>((PyData.str x.1,x.2):PyData×PyData))=(v.map λx=>(PyData.str x.1,x.2))->u=v:=λu=>by
   induction u with
   | nil=>intro v h;cases v <;> simp at h ⊢
   | cons c u k=>
    intro v h;cases v with
    | nil=>simp at h
    | cons s v=>
     simp only[Ac7,Ce,Prod.mk.injEq,PyData.str.injEq]at h;rw[k v h.2,Prod.ext h.1.1 h.1.2]
  have y:fs'=fs:=inj _ _ g.symm
  subst y;exact⟨a,dx,vs,rfl,e,r⟩
theorem bR2 {v:V}{d:PyData}(h:cR6 K H v d):Rep K H v d:=by
 obtain⟨a,xs,ds,rfl,rfl,s,e⟩:=h;exact .lst s (cC9 e)
theorem cP2 {v:V}{d:PyData}(h:dS1 K H v d):Rep K H v d:=by
 rcases h with h | ⟨a,xs,ds,rfl,rfl,s,p⟩
 .exact bR2 h
 .refine .lst s ?_
  clear s
  induction p with
  | nil=>exact .nil
  | cons h _ e=>exact .cons (bR2 h) e
theorem cQ4 {vs:List (Str×V)}{fs:List (Str×PyData)}{f:Str}{d:PyData}(r:GdF K H vs fs)(h:fs.lookup f=some d):∃v,vs.lookup f=some v/\dS1 K H v d:=by
 unfold GdF at r;induction r with
 | nil=>cases h
 | @cons p q ps qs a _ ih=>
  obtain⟨y,g⟩:=p;obtain⟨k,s⟩:=q;obtain⟨e,r⟩:=a;dsimp only at e r;subst e;by_cases c:f=y
  .subst c;simp only[List.lookup_cons,beq_self_eq_true]at h ⊢;exact⟨g,rfl,by rw[<- Ab4 h];exact r⟩
  .have z:(f==y)=false:=by simpa using c
   simp only[List.lookup_cons,z]at h ⊢;exact ih h
end
section
variable {K:Frag}{ρ:List Sl}{m:Bool}{ta:TE}{d:PyData}
theorem cS8 {C:Addr}{fs:List (Str×PyData)}{f:Str}(k:E K m ta ρ (igD C fs))(cl:Cls K C)(n:NoAttr K C f)(l:fs.lookup f=some d):E K m (eD4 K ta f) ρ d:=λS B σ H o I Q q=>k S B σ H o I _ λx y s r=>by
 obtain⟨a,dx,vs,rfl,e,g⟩:=dX3 r;obtain⟨v,h1,z⟩:=cQ4 g l;exact⟨a,C,dx,_,v,rfl,aH1 _ _ e,cl,n,h1,q v y s (cP2 z)⟩
end
end LV
namespace K48
open PySem L2 LV PyProof.Rows
def bJ:AB->List Bool
 | []=>[]
 | [a]=>TT.ds a
 | a::b::D=>TT.ds a++true::bJ (b::D)
theorem dE5 (D:AB):Txt.join (sb [true]) (D.map λn=>sb (List.replicate n false))=sb (bJ D):=by
 unfold Txt.join;rw[PySem.StrLaws.glued_eq_join];induction D with
 | nil=>rfl
 | cons a D e=>
  cases D with
  | nil=>rfl
  | cons b D=>
   show sb (List.replicate a false)++sb [true]++Str.join (sb [true]) ((b::D).map λn=>sb (List.replicate n false))=_
   rw[e,bH1,bH1,Ad7];rfl
theorem cV9 {D:AB}(h:D≠[]):Txt.split (sb (bJ D)) (sb [true])=D.map λn=>sb (List.replicate n false):=by
 rw[<- dE5];refine bW6 (c:=117) (λz=>h (List.map_eq_nil_iff.mp z)) λp hp=>?_
 obtain⟨l,_,rfl⟩:=Aa8.mp hp;intro z;unfold sb at z;simp at z
theorem dD5 (a:Nat){L:AB}(h:L≠[]):bJ (a::L)=TT.ds a++true::bJ L:=by
 cases L with
 | nil=>exact absurd rfl h
 | cons b D=>rfl
theorem cX9 {L:AB}(h:L≠[]):∀D:AB,bJ (D++L)=D.flatMap (λn=>TT.ds n++[true])++bJ L
 | []=>rfl
 | a::D=>by
  rw[Ab6,dD5 a (by simp[h]),cX9 h D]
  simp
def dwn (G:Nat->Nat)(m:Nat):AB:=(List.range m).map (λj=>G j-TT.pv G j)++[m-TT.pv G m]
theorem dP9 (G:Nat->Nat)(m:Nat):bJ (dwn G m)=TT.D3 G m:=by
 unfold dwn TT.D3;rw[cX9 (by simp)]
 have e:∀i,((List.range i).map (λj=>G j-TT.pv G j)).flatMap (λn=>TT.ds n++[true])=TT.wrd G i:=λi=>by
  induction i with
  | zero=>rfl
  | succ i y=>
   rw[Bd,Ad2,List.flatMap_append,y]
   simp[TT.wrd]
 rw[e];rfl
theorem dQ8 {G:Nat->Nat}{m i:Nat}(h:i<m):(dwn G m)[i]? = some (G i-TT.pv G i):=by
 unfold dwn;rw[By (by simpa using h),Aa9,List.getElem?_range h];rfl
def tkA (F G:Nat->Nat)(m:Nat):AB:=TT.tks F G m++((TT.gst F G m).path.dropLast.reverse++(TT.gst F G m).heap.dropLast)
def o7 (F G:Nat->Nat)(m j:Nat):AB:=[(TT.gst F G m).o0 (j+3),(TT.gst F G m).o1 (j+3),(TT.gst F G m).o2 (j+3)]
def grD (C:Addr)(F G:Nat->Nat)(m:Nat):PyData:=igD C [("unshut",lN [0]),("heap",lN [1]),("ends",.list ((List.range m).map λj=>lN (o7 F G m j))),("taken",lN (tkA F G m))]
def eC0 (C:Addr)(ds:AD)(d:PyData):Prop:=∃(F G:Nat->Nat) (m:Nat),m<=7/\TT.Rws F G m/\ds=[.str (sb (TT.D3 F m)),.str (sb (TT.D3 G m))]/\d=grD C F G m
theorem dT1 (l:AB):((nJ l).map V.int).map some=(nI l).map sV:=by
 unfold nJ nI
 simp[sV]
section
variable {P:Program}{w:World}{K:Frag}{mg:Str->Option Value}{base:Heap}{a:Ad}
theorem eE0 (T:Tx K mg a):FnOk P w K mg base CX0 3 a.aV2 a.aU0 ["first", "second"] (spV K (eC0 a.C4)):=by
 refine(cK3 T).imp ?_;rintro vs H Q E ⟨ds,S,d,hS,r,⟨F,G,m,hm,R,rfl,rfl⟩,q⟩;have I:=TT.E1 R m (Aa7 _);obtain⟨p,N⟩:=I.inv.pe;obtain⟨h,M⟩:=I.inv.he;have il:=I.le;have il2:=I.le2;have U:=I.h;have ip:=I.p;obtain⟨r1,r2,r3,r4⟩:=dJ6 (D:=dwn G m) R (by lia) (λi hi=>dQ8 hi) N M
 have lF:(TT.D3 F m).length=2*m:=TT.Y6 R.f1 (by lia)
 have lG:(TT.D3 G m).length=2*m:=TT.Y6 R.g1 (by lia)
 have lph:(p.reverse++h).length+1<1000:=by rw[N]at ip;rw[M]at U;simp at ip U ⊢;lia
 have e1:(S9 (dwn G m) (TT.D3 F m) gs0).h.length-1=(p.reverse++h).length:=by lia
 have hv:vs=[.str (sb (TT.D3 F m)),.str (sb (TT.D3 G m))]:=by
  cases r with
  | cons a b=>cases a;cases b with | cons a b=>cases a;cases b;rfl
 subst hv;refine⟨TT.D3 F m,TT.D3 G m,dwn G m,rfl,by lia,by lia,by rw[<- dP9,cV9 (by unfold dwn;simp)],λn hn=>?_,r1,by rw[e1];exact r3,by lia,by lia,λJ g A y Y hg fr=>?_⟩
 .unfold dwn at hn;rcases Aa0.mp hn with z | z
  .obtain⟨j,hj,rfl⟩:=Aa8.mp z
   have:=Ab5.mp hj
   have:=R.g2 j this
   have:=R.f2 j (Ab5.mp hj)
   lia
  .rw[Ad8.mp z];lia
 .rw[r4]at y;refine q _ J Y ?_;have nS:∀b,H b=none->¬S b:=λb e z=>by obtain⟨u,hu⟩:=hS b z;rw[e]at hu;cases hu
  have s:∀{b:Addr} {o:HO},H b=none->J b=some o->hid S J b=some o:=λn e=>hid_some.mpr ⟨nS _ n,e⟩
  have X:∀{b:Addr},b∈A.all->H b=none:=λh=>fr _ h
  have ma1:A.a1∈A.all:=by unfold GA.all;simp
  have ma2:A.a2∈A.all:=by unfold GA.all;simp
  have ma3:A.a3∈A.all:=by unfold GA.all;simp
  have ma4:A.a4∈A.all:=by unfold GA.all;simp
  have et:tkA F G m=TT.tks F G m++(p.reverse++h):=by unfold tkA;rw[N,M];simp
  refine .ing (s hg y.i) (.cons ⟨rfl,.inl ⟨_,_,_,rfl,rfl,SqL.of (s (X ma1) y.l1),rfl⟩⟩ (.cons ⟨rfl,.inl ⟨_,_,_,rfl,rfl,SqL.of (s (X ma2) y.l2),rfl⟩⟩ (.cons ⟨rfl,.inr ⟨_,_,_,rfl,rfl,SqL.of (s (X ma3) y.l3),?_⟩⟩ (.cons ⟨rfl,.inl ⟨_,_,_,rfl,rfl,SqL.of (s (X ma4) y.l4),?_⟩⟩ .nil))))
  .have k:∀b∈A.es,H b=none:=λb B=>fr b (by unfold GA.all;simp[B])
   have le:=y.le
   generalize A.es=es at le k;generalize List.range m=js at le ⊢;induction js generalizing es with
   | nil=>cases le;exact .nil
   | cons j js U=>
    cases le with
    | cons p q=>exact .cons ⟨_,_,_,rfl,rfl,SqL.of (s (k _ (by simp)) p),rfl⟩ (U _ (λb B=>k b (by simp[B])) q)
  .rw[et];exact dT1 _
end
theorem sc__law_grown:D4 ["_law_first", "_law_second", "_law_outs", "_law_ins", "_law_path", "_law_heap", "_law_i", "_law_ahead", "_law_k", "_law_place", "_law_turns", "_law_v", "_law_came", "_law_row_here"] ["_law_first", "_law_second"] (C3 u5):=⟨rfl,rfl,rfl,by decide +kernel,rfl,by decide +kernel,by decide +kernel⟩
def rh (m:Nat)(F G:Nat->Nat)(o i:OT)(p h:AB)(x6 x7 x8 x9:Sl):List Sl:=
 [.val (lI (fl F m)),.val (lI (fl G m)),.tr o,.tr i,.own (nI p.reverse),.own (nI h.reverse),x6,x7,x8,x9,.no,.no,.no,.no]
theorem a8 {m:Nat}{F G:Nat->Nat}{o i:OT}{p h:AB}{x6 x7 x8 x9:Sl}(e:x6.nb=true)(y:x7.nb=true)(z:x8.nb=true)(r:x9.nb=true):V8 (rh m F G o i p h x6 x7 x8 x9)=true:=by
 unfold rh;simp only[aB7,e,y,z,r,Bool.true_and];rfl
def rh2 (m:Nat)(F G:Nat->Nat)(o i:PyData)(p h:AD)(x6 x7 x8 x9 x10 x11 x12 x13:Sl):List Sl:=
 [.val (lI (fl F m)),.val (lI (fl G m)),.val o,.val i,.own p,.own h,x6,x7,x8,x9,x10,x11,x12,x13]
theorem bZ2 {m:Nat}{F G:Nat->Nat}{o i:PyData}{p h:AD}{x6 x7 x8 x9 x10 x11 x12 x13:Sl}(g:x6.nb=true)(k:x7.nb=true)(s:x8.nb=true)(Y:x9.nb=true)(e:x10.nb=true)(y:x11.nb=true)(z:x12.nb=true)(r:x13.nb=true):V8 (rh2 m F G o i p h x6 x7 x8 x9 x10 x11 x12 x13)=true:=by
 unfold rh2;simp only[aB7,g,k,s,Y,e,y,z,r,Bool.true_and];rfl
def cU3 (ds:AD)(d:PyData):Prop:=∃F G m,TT.Rws F G m/\m<=1000/\ds=[lI (fl F m),lI (fl G m)] /\
 d=.tuple [.list ((List.range (m+3)).map λv=>lN ((TT.gst F G m).row v)),.list ((List.range m).map λv=>lN [(TT.gst F G m).o0 (v+3),(TT.gst F G m).o1 (v+3),(TT.gst F G m).o2 (v+3)])]
section
variable {P:Program}{w:World}{K:Frag}{mg:Str->Option Value}{base:Heap}{a:Ad}
theorem cP5 (T:Tx K mg a):FnOk P w K mg base CX0 1 a.aA8 a.aB1 ["_law_first", "_law_second"] (spV K cU3):=by
 refine T.aM1.ok sc__law_grown (T5 λds d ⟨_,_,_,_,_,e,_⟩=>by rw[e];rfl) (λcdv A outer s H vs Q E hr h=>?_)
 obtain⟨ds,S,d,hS,r,⟨F,G,m,R,hm,rfl,rfl⟩,k⟩:=h;refine⟨_,(A6 (C0 (i:=2) sc__law_grown.nd rfl (Or.inl rfl) (C9 A4))
   (A6 (C0 (i:=3) sc__law_grown.nd rfl (Or.inl rfl) (C9 (A0 (O1 (A0 (C9 A4) (A0 (C9 A4) (A0 (C9 A4) A4)))) (A0 (O1 (A0 (C9 A4) (A0 (C9 A4) (A0 (C9 A4) A4)))) (A0 (O1 (A0 (C9 A4) (A0 (C9 A4) (A0 (C9 A4) A4)))) A4)))))
   (A6 (C0 (i:=4) sc__law_grown.nd rfl (Or.inl rfl) (C9 (A0 A7 A4)))
   (A6 (C0 (i:=5) sc__law_grown.nd rfl (Or.inl rfl) (C9 (A0 A7 A4)))
   (A6 (G5 Aj rfl (G8 rfl T.J0 (A0 (B8 N8 (by rfl) T.F9 Ah (A0 (pv 0) A4)) A4)) (C5 (i:=6) sc__law_grown.nd rfl (Or.inl rfl)) (A6 (C0 (i:=7) sc__law_grown.nd rfl (Or.inl rfl) (C9 (A0 A7 (A0 A7 A4))))
   (A6 (N5 (B9 t5 (pv 6) A7 (C7 _)) (B0 (C0 (i:=7) sc__law_grown.nd rfl (Or.inl rfl) (C9 (A0 (B6 D7 (pv 0) (B2 L4 (pv 6) A7) (λ_ _=>rfl)) (A0 (B6 D7 (pv 1) (B2 L4 (pv 6) A7) (λ_ _=>rfl)) A4))))) H9)
   (A6 (G5 Aj rfl (G8 rfl T.J0 (A0 (B2 L4 (B6 D7 (pv 0) (pv 6) (λ_ _=>rfl)) (B6 D7 (pv 7) A7 (λ_ _=>rfl))) A4)) (C5 (i:=8) sc__law_grown.nd rfl (Or.inl rfl)) (B0 (E8 (J9 Ab1 Ag Af D9 (pv 5) (A0 (aP8 Ab1 PySem.F.slot_list_pop PySem.F.type_list_pop aQ9 (pv 4)) A4)))))
   (A6 (E8 (J9 Ab1 Ag Af D9 (pv 3) (A0 (O1 (A0 (C9 A4) (A0 (C9 A4) (A0 (C9 A4) A4)))) A4)))
   (A6 (G5 Aj rfl (G8 rfl T.J0 (A0 (B2 L4 (B6 D7 (pv 1) (pv 6) (λ_ _=>rfl)) (B6 D7 (pv 7) A7 (λ_ _=>rfl))) A4)) (C5 (i:=8) sc__law_grown.nd rfl (Or.inl rfl)) (A6 (C0 (i:=9) sc__law_grown.nd rfl (Or.inl rfl) (aP8 Ab1 PySem.F.slot_list_pop PySem.F.type_list_pop aQ9 (pv 5)))
   (A6 (aX1 (B2 G0 A7 (pv 6)) (bK4 (B6 D7 (pv 2) (B2 L4 (pv 9) A7) (λ_ _=>rfl)) A7 aM6))
   (B0 (E8 (J9 Ab1 Ag Af D9 (B6 D7 (B6 D7 (pv 3) (B2 G0 A7 (pv 6)) (λ_ _=>rfl)) A7 (λ_ _=>rfl)) (A0 (pv 9) A4)))))))
   (A6 (E8 (J9 Ab1 Ag Af D9 (pv 2) (A0 (C9 (A0 (B6 D7 (pv 4) (aH3 m5 A7) (λ_ _=>rfl)) (A0 (B6 D7 (pv 5) (aH3 m5 A7) (λ_ _=>rfl)) (A0 A7 A4)))) A4)))
   (A6 (E8 (J9 Ab1 Ag Af D9 (B6 D7 (B6 D7 (pv 3) (B6 D7 (pv 4) (aH3 m5 A7) (λ_ _=>rfl)) (λ_ _=>rfl)) A7 (λ_ _=>rfl)) (A0 (B2 G0 A7 (pv 6)) A4)))
   (A6 (E8 (J9 Ab1 Ag Af D9 (B6 D7 (B6 D7 (pv 3) (B6 D7 (pv 5) (aH3 m5 A7) (λ_ _=>rfl)) (λ_ _=>rfl)) A7 (λ_ _=>rfl)) (A0 (B2 G0 A7 (pv 6)) A4)))
   (B0 (E8 (J9 Ab1 Ag Af D9 (pv 4) (A0 (B2 G0 A7 (pv 6)) A4)))))))))))))
   (A6 (bA1 Aj (B9 t5 (B8 N8 (by rfl) T.F9 Ah (A0 (pv 4) A4)) A7 (C7 _)) (B0 (E8 (J9 Ab1 Ag Af D9 (pv 5) (A0 (aP8 Ab1 PySem.F.slot_list_pop PySem.F.type_list_pop aQ9 (pv 4)) A4)))))
   (A6 (bA1 Aj (B9 t5 (B8 N8 (by rfl) T.F9 Ah (A0 (pv 5) A4)) A7 (C7 _)) (B0 (E8 (J9 Ab1 Ag Af D9 (B6 D7 (B6 D7 (pv 3) A7 (λ_ _=>rfl)) A7 (λ_ _=>rfl)) (A0 (aP8 Ab1 PySem.F.slot_list_pop PySem.F.type_list_pop aQ9 (pv 5)) A4)))))
   (A6 (C0 (i:=10) sc__law_grown.nd rfl (Or.inl rfl) (C9 (A0 (B2 (J4 K) (B2 (J4 K) (C9 (A0 A7 A4)) (B6 D7 (B6 D7 (pv 3) A7 (λ_ _=>rfl)) A7 (λ_ _=>rfl))) (C9 (A0 A7 A4))) A4)))
   (A6 (E8 (J9 Ab1 Ag Af D9 (pv 10) (A0 (B2 (J4 K) (B2 (J4 K) (C9 (A0 A7 A4)) (aW5 K rfl (by rfl) T.aD8 (by rfl) T.aA7 (B6 D7 (B6 D7 (pv 3) A7 (λ_ _=>rfl)) A7 (λ_ _=>rfl)))) (C9 (A0 A7 A4))) A4)))
   (A6 (E8 (J9 Ab1 Ag Af D9 (pv 10) (A0 (B2 (J4 K) (B2 (J4 K) (C9 (A0 A7 A4)) (B6 D7 (B6 D7 (pv 3) A7 (λ_ _=>rfl)) A7 (λ_ _=>rfl))) (C9 (A0 A7 A4))) A4)))
   (A6 (G5 Aj rfl (G8 rfl T.J0 (A0 (B8 N8 (by rfl) T.F9 Ah (A0 (pv 2) A4)) A4)) (C5 (i:=11) sc__law_grown.nd rfl (Or.inl rfl)) (A6 (C0 (i:=12) sc__law_grown.nd rfl (Or.inl rfl) (B6 D7 (pv 3) (B2 G0 A7 (pv 11)) (λ_ _=>rfl)))
   (A6 (C0 (i:=13) sc__law_grown.nd rfl (Or.inl rfl) (B2 (J4 K) (B2 (J4 K) (B2 (J4 K) (C9 (A0 (B6 D7 (B6 D7 (pv 2) (pv 11) (λ_ _=>rfl)) A7 (λ_ _=>rfl)) A4)) (B6 D7 (pv 12) A7 (λ_ _=>rfl))) (C9 (A0 (B6 D7 (B6 D7 (pv 2) (pv 11) (λ_ _=>rfl)) A7 (λ_ _=>rfl)) A4))) (B6 D7 (pv 12) A7 (λ_ _=>rfl))))
   (B0 (E8 (J9 Ab1 Ag Af D9 (pv 10) (A0 (B2 (J4 K) (B2 (J4 K) (pv 13) (C9 (A0 (B6 D7 (B6 D7 (pv 2) (pv 11) (λ_ _=>rfl)) A7 (λ_ _=>rfl)) A4))) (aW5 K rfl (by rfl) T.aD8 (by rfl) T.aA7 (B6 D7 (pv 12) A7 (λ_ _=>rfl)))) A4)))))))
   (B0 (D2 (O1 (A0 (pv 10) (A0 (pv 2) A4)))))))))))))))),K1 hS r ?_ k⟩
 refine B4 (cZ5 (N9 L5) ?_);refine B4 (cZ5 (N9 (J5 (aV1 (J5 (N9 L5) (J5 (N9 L5) (J5 (N9 L5) L5)))) (J5 (aV1 (J5 (N9 L5) (J5 (N9 L5) (J5 (N9 L5) L5)))) (J5 (aV1 (J5 (N9 L5) (J5 (N9 L5) (J5 (N9 L5) L5)))) L5)))) ?_);refine B4 (K2 (J8 (A5 A9 B1)) ?_);refine B4 (K2 (J8 (A5 A9 B1)) ?_);show W K _ (rh m F G (N3 0 (TT.gst F G 0).o0 (TT.gst F G 0).o1 (TT.gst F G 0).o2) (G9 (0+3) (TT.gst F G 0).i0 (TT.gst F G 0).i1 (TT.gst F G 0).i2) (TT.gst F G 0).path (TT.gst F G 0).heap .no .no .no .no) _;have N:((fl F m).map PyData.int).length=m:=by simp[fl]
 refine B4 (N2 (Q4 (A5 (O7 (A5 (A1 rfl) B1)) B1) ?_ ?_) (λi ρ=>∃X U x8 g,(X.nb=true/\U.nb=true/\x8.nb=true/\g.nb=true) /\
  ρ=rh m F G (N3 i (TT.gst F G i).o0 (TT.gst F G i).o1 (TT.gst F G i).o2) (G9 (i+3) (TT.gst F G i).i0 (TT.gst F G i).i1 (TT.gst F G i).i2) (TT.gst F G i).path (TT.gst F G i).heap X U x8 g) ⟨_,_,_,_,⟨rfl,rfl,rfl,rfl⟩,rfl⟩ ?_ ?_)
 .rw[N];lia
 .rw[N];lia
 .rintro i d _ J ⟨X,U,x8,g,⟨b6,b7,b8,b9⟩,rfl⟩;obtain⟨rfl,hi⟩:=Q6 J;have hi:i<m:=by
   have:=hi
   simp[fl]at this
   lia
  obtain⟨sk,sa,sb,spl,D,slo,spx,B,se0,se1⟩:=TT.aD9 R hi;have hst:TT.gst F G (i+1)=(TT.gst F G i).step (F i-TT.pv F i) (G i-TT.pv G i):=rfl;have f1:=R.f1 i hi;have g1:=R.g1 i hi;have hFi:=R.f2 i hi;have hGi:=R.g2 i hi;generalize hs:TT.gst F G i=s at sk sa sb spl D slo spx B se0 se1 hst ⊢;refine⟨_,D5,?_⟩;refine B4 (K2 (J8 (A5 A9 (A5 A9 B1))) ?_ (show 7<14 by decide))
  refine B4 (cO3 (rh m F G (N3 i s.o0 s.o1 s.o2) (G9 (i+3) s.i0 s.i1 s.i2) s.path s.heap (.val (.int (i:Int))) (.own [.int (TT.pv F i:Nat),.int (TT.pv G i:Nat)]) x8 g) (D1 (U7 (A1 rfl) A9))
   (λh=>(K2 (ds:=[.int (F (i-1):Nat),.int (G (i-1):Nat)]) (J8 (A5 (E4 (A1 rfl) (L9 (A1 rfl) A9) rfl ?_) (A5 (E4 (A1 rfl) (L9 (A1 rfl) A9) rfl ?_) B1))) ?_ (show 7<14 by decide))) (λh=>M2 ?_) ?_)
  .have h:(i:Int)>0:=Am h
   have e:(i:Int)-1=((i-1:Nat):Int):=by lia
   rw[e];exact cF4 (by lia)
  .have h:(i:Int)>0:=Am h
   have e:(i:Int)-1=((i-1:Nat):Int):=by lia
   rw[e];exact cF4 (by lia)
  .have h:(i:Int)>0:=Am h
   obtain⟨j,rfl⟩:∃j,i=j+1:=⟨i-1,by lia⟩
   rfl
  .have h:¬(i:Int)>0:=Bm h
   have:i=0:=by lia
   subst this;rfl
  generalize hA:F i-TT.pv F i=na at sa sb D slo spx B hst;generalize hB:G i-TT.pv G i=nb at sb slo B hst;refine B4 (N2 (Q4 (A5 (L9 (E4 (A1 rfl) (A1 rfl) rfl (cF4 hi)) (E4 (K4 rfl) A9 rfl rfl)) B1) ?_ ?_) (λj ρ=>∃x8,x8.nb=true /\
   ρ=rh m F G (N3 i s.o0 s.o1 s.o2) (G9 (i+3) s.i0 s.i1 s.i2) (s.path.drop j) (s.h1 j) (.val (.int (i:Int))) (.own [.int (TT.pv F i:Nat),.int (TT.pv G i:Nat)]) x8 g) ⟨x8,b8,rfl⟩ ?_ ?_)
  .lia
  .lia
  .rintro j d _ J ⟨y8,c8,rfl⟩;obtain⟨rfl,M⟩:=Q6 J;have M:j<na:=by lia
   refine⟨_,D5,?_⟩;obtain⟨x,hx⟩:∃x,s.path[j]? = some x:=⟨_,Aa2 (by lia)⟩
   have e1:s.path.drop j=x::s.path.drop (j+1):=by
    obtain⟨h1,h2⟩:=Ab0.mp hx;rw[<- h2];exact Ao h1
   have e2:s.h1 (j+1)=x::s.h1 j:=by
    unfold TT.S.h1;obtain⟨h1,h2⟩:=Ab0.mp hx;rw[Cc h1,h2];simp
   show W K _ (rh m F G (N3 i s.o0 s.o1 s.o2) (G9 (i+3) s.i0 s.i1 s.i2) (s.path.drop j) (s.h1 j) (.val (.int (i:Int))) (.own [.int (TT.pv F i:Nat),.int (TT.pv G i:Nat)]) (.val (.int (j:Int))) g) _
   refine bC0 (ds:=nI (s.h1 j).reverse) (bV0 (d:=.int (x:Int)) (ds:=nI (s.path.drop (j+1)).reverse) ?_ (a8 rfl rfl rfl b9)) rfl rfl ?_ ⟨.val (.int (j:Int)),rfl,?_⟩ ?_
   .show some (Sl.own (nI (s.path.drop j).reverse))=_
    rw[e1];simp[nI]
   .rw[C8,Ae1];unfold TT.S.h1 at D ⊢;unfold sizeLine;simp only[Ab7,Ae1,Ad1]at D ⊢
    lia
   .rw[e2];unfold rh
    simp[nI]
   .exact a8 (p:=s.path.drop (j+1)) (h:=s.h1 j) rfl rfl rfl b9
  rintro _ ⟨y8,c8,rfl⟩;rw[U9];have ea:((F i:Int)-(TT.pv F i:Int)).toNat=na:=by lia
  rw[ea];refine B4 (o8 (u0:=G9 (i+3) s.i0 s.i1 s.i2) aH8 rfl rfl (aV1 (J5 (N9 L5) (J5 (N9 L5) (J5 (N9 L5) L5)))) ?_ ?_ (a8 rfl rfl c8 b9))
  .rw[Aa3,Bo];unfold sizeLine;lia
  have ei:(G9 (i+3) s.i0 s.i1 s.i2).put [] (.lst (((List.range (i+3)).map λq=>OT.tup [oN (s.i0 q),oN (s.i1 q),oN (s.i2 q)])++[.tup [.lst [],.lst [],.lst []]]))=G9 (i+4) s.i0 s.i1 (TT.put s.i2 (i+3) []):=by
   rw[OT.put_nil,dE9]
   congr 1
   .funext q;by_cases e:q=i+3
    .rw[e,TT.B7,se0]
    .rw[TT.C2 e]
   .funext q;by_cases e:q=i+3
    .rw[e,TT.B7,se1]
    .rw[TT.C2 e]
  show W K _ ((rh m F G (N3 i s.o0 s.o1 s.o2) (G9 (i+3) s.i0 s.i1 s.i2) (s.path.drop na) (s.h1 na) (.val (.int (i:Int))) (.own [.int (TT.pv F i:Nat),.int (TT.pv G i:Nat)]) y8 g).set 3 (.tr ((G9 (i+3) s.i0 s.i1 s.i2).put [] (.lst (((List.range (i+3)).map λq=>OT.tup [oN (s.i0 q),oN (s.i1 q),oN (s.i2 q)])++[.tup [.lst [],.lst [],.lst []]]))))) _
  rw[ei];show W K _ (rh m F G (N3 i s.o0 s.o1 s.o2) (G9 (i+4) s.i0 s.i1 (TT.put s.i2 (i+3) [])) (s.path.drop na) (s.h1 na) (.val (.int (i:Int))) (.own [.int (TT.pv F i:Nat),.int (TT.pv G i:Nat)]) y8 g) _;generalize hh:s.h1 na=h at sb D slo B ⊢;refine B4 (N2 (Q4 (A5 (L9 (E4 (A1 rfl) (A1 rfl) rfl (cF4 hi)) (E4 (K4 rfl) A9 rfl rfl)) B1) ?_ ?_) (λj ρ=>∃x8 g,x8.nb=true/\g.nb=true /\
   ρ=rh m F G (N3 i s.o0 s.o1 (λq=>if q∈h.take j then i+3 else s.o2 q)) (G9 (i+4) s.i0 s.i1 (TT.put s.i2 (i+3) (h.take j))) (s.path.drop na) (h.drop j) (.val (.int (i:Int))) (.own [.int (TT.pv F i:Nat),.int (TT.pv G i:Nat)]) x8 g) ⟨y8,g,c8,b9,by simp⟩ ?_ ?_)
  .lia
  .lia
  .rintro j d _ J ⟨z8,z9,c8,c9,rfl⟩;obtain⟨rfl,M⟩:=Q6 J;have M:j<nb:=by lia
   refine⟨_,D5,?_⟩;obtain⟨x,hx⟩:∃x,h[j]? = some x:=⟨_,Aa2 (by lia)⟩
   obtain⟨hx1,hx2⟩:=Ab0.mp hx;have e1:h.drop j=x::h.drop (j+1):=by rw[<- hx2];exact Ao hx1
   have e2:h.take (j+1)=h.take j++[x]:=by rw[<- hx2];exact Cc hx1
   obtain⟨x3,xi⟩:=slo x (by
    refine Ar (i:=j) ?_;rw[List.getElem?_take,Ae M];exact hx)
   refine B4 (eG4 (ds:=nI (h.drop (j+1)).reverse) (d:=.int (x:Int)) ?_ ?_ (a8 (x8:=.val (.int (j:Int))) rfl rfl rfl c9))
   .show some (Sl.own (nI (h.drop j).reverse))=_
    rw[e1];simp[nI]
   have e3:(3:Int)+(i:Int)=((i+3:Nat):Int):=by lia
   have hx3:x-3+3=x:=by lia
   show W K _ (rh m F G (N3 i s.o0 s.o1 (λq=>if q∈h.take j then i+3 else s.o2 q)) (G9 (i+4) s.i0 s.i1 (TT.put s.i2 (i+3) (h.take j))) (s.path.drop na) (h.drop (j+1)) (.val (.int (i:Int))) (.own [.int (TT.pv F i:Nat),.int (TT.pv G i:Nat)]) (.val (.int (j:Int))) (.val (.int (x:Int)))) _
   have eo:(N3 i s.o0 s.o1 (λq=>if q∈h.take j then i+3 else s.o2 q)).put [x-3] (oN [s.o0 (x-3+3),s.o1 (x-3+3),i+3])=N3 i s.o0 s.o1 (λq=>if q∈h.take (j+1) then i+3 else s.o2 q):=by
    rw[dD4 (by lia)]
    congr 1
    funext q
    rw[hx3,e2];by_cases e:q=x
    .rw[e,TT.B7];simp
    .rw[TT.C2 e];simp[e]
   refine B4 (dY7 (u0:=N3 i s.o0 s.o1 (λq=>if q∈h.take j then i+3 else s.o2 q)) (us:=[.leaf (.int (s.o0 (x-3+3):Nat)),.leaf (.int (s.o1 (x-3+3):Nat)),.leaf (.int ((if x-3+3∈h.take j then i+3 else s.o2 (x-3+3):Nat):Int))]) (π:=[]++[x-3]) 2 (L9 A9 (A1 rfl)) (aK7 (x-3) aH8 (L9 (A1 rfl) A9) (by lia) (λu _=>⟨u,rfl⟩)) A9 rfl (by decide:2<3) rfl (dZ7 (by lia)) ?_ (a8 rfl rfl rfl rfl))
   show W K _ ((rh m F G (N3 i s.o0 s.o1 (λq=>if q∈h.take j then i+3 else s.o2 q)) (G9 (i+4) s.i0 s.i1 (TT.put s.i2 (i+3) (h.take j))) (s.path.drop na) (h.drop (j+1)) (.val (.int (i:Int))) (.own [.int (TT.pv F i:Nat),.int (TT.pv G i:Nat)]) (.val (.int (j:Int))) (.val (.int (x:Int)))).set 2
    (.tr ((N3 i s.o0 s.o1 (λq=>if q∈h.take j then i+3 else s.o2 q)).put [x-3] (.lst [.leaf (.int (s.o0 (x-3+3):Nat)),.leaf (.int (s.o1 (x-3+3):Nat)),.leaf (.int (3+(i:Int)))])))) _
   rw[e3];show W K _ ((rh m F G (N3 i s.o0 s.o1 (λq=>if q∈h.take j then i+3 else s.o2 q)) (G9 (i+4) s.i0 s.i1 (TT.put s.i2 (i+3) (h.take j))) (s.path.drop na) (h.drop (j+1)) (.val (.int (i:Int))) (.own [.int (TT.pv F i:Nat),.int (TT.pv G i:Nat)]) (.val (.int (j:Int))) (.val (.int (x:Int)))).set 2
    (.tr ((N3 i s.o0 s.o1 (λq=>if q∈h.take j then i+3 else s.o2 q)).put [x-3] (oN [s.o0 (x-3+3),s.o1 (x-3+3),i+3])))) _
   rw[eo];show W K _ (rh m F G (N3 i s.o0 s.o1 (λq=>if q∈h.take (j+1) then i+3 else s.o2 q)) (G9 (i+4) s.i0 s.i1 (TT.put s.i2 (i+3) (h.take j))) (s.path.drop na) (h.drop (j+1)) (.val (.int (i:Int))) (.own [.int (TT.pv F i:Nat),.int (TT.pv G i:Nat)]) (.val (.int (j:Int))) (.val (.int (x:Int)))) _
   refine o8 (u0:=G9 (i+4) s.i0 s.i1 (TT.put s.i2 (i+3) (h.take j))) (π:=[]++[i+3]++[2]) (aK7 2 (aK7 (i+3) aH8 (L9 A9 (A1 rfl)) (by lia) (λu _=>⟨u,rfl⟩)) A9 rfl (λu0 h=>by cases h;exact⟨_,aJ0 (by lia)⟩)) rfl (cB5 (by lia)) (bE9 (A1 rfl)) ?_ ?_ (a8 rfl rfl rfl rfl)
   .rw[Aa3,TT.B7,Ad1];unfold sizeLine;lia
   refine⟨.val (.int (j:Int)),.val (.int (x:Int)),rfl,rfl,?_⟩;rw[bT2 (by lia),cG0,TT.B7,<- e2]
   rfl
  rintro _ ⟨z8,z9,c8,c9,rfl⟩;rw[U9];have eb:((G i:Int)-(TT.pv G i:Int)).toNat=nb:=by lia
  rw[eb];obtain⟨x,r1,ex,xlt,xlen⟩:=spx;obtain⟨y,r2,ey,ylt,ylen⟩:=B;have e3:(3:Int)+(i:Int)=((i+3:Nat):Int):=by lia
  have hpl:atI (nI (s.path.drop na).reverse) (-1)=some (.int (x:Int)):=by rw[ex,List.reverse_cons,j4];exact aF2
  have hhl:atI (nI (h.drop nb).reverse) (-1)=some (.int (y:Int)):=by rw[ey,List.reverse_cons,j4];exact aF2
  refine B4 (o8 (u0:=N3 i s.o0 s.o1 (λq=>if q∈h.take nb then i+3 else s.o2 q)) aH8 rfl rfl (N9 (J5 (bE9 (LV.E.imm (d:=.int (x:Int)) (E4 (K4 rfl) (aS2 A9) rfl hpl))) (J5 (bE9 (LV.E.imm (d:=.int (y:Int)) (E4 (K4 rfl) (aS2 A9) rfl hhl))) (J5 (bE9 A9) L5)))) ?_ ?_ (a8 rfl rfl c8 c9))
  .rw[Aa3,Bo];unfold sizeLine;lia
  have eo:(N3 i s.o0 s.o1 (λq=>if q∈h.take nb then i+3 else s.o2 q)).put [] (.lst (((List.range i).map λj=>oN [s.o0 (j+3),s.o1 (j+3),(λq=>if q∈h.take nb then i+3 else s.o2 q) (j+3)])++[.lst [.leaf (.int (x:Int)),.leaf (.int (y:Int)),.leaf (.int ((2:Nat):Int))]]))=N3 (i+1) (TT.put s.o0 (i+3) x) (TT.put s.o1 (i+3) y) (TT.put (λq=>if q∈h.take nb then i+3 else s.o2 q) (i+3) 2):=by rw[OT.put_nil];exact dC6 (k:=i) (o0:=s.o0) (o1:=s.o1) (o2:=λq=>if q∈h.take nb then i+3 else s.o2 q) x y 2
  show W K _ ((rh m F G (N3 i s.o0 s.o1 (λq=>if q∈h.take nb then i+3 else s.o2 q)) (G9 (i+4) s.i0 s.i1 (TT.put s.i2 (i+3) (h.take nb))) (s.path.drop na) (h.drop nb) (.val (.int (i:Int))) (.own [.int (TT.pv F i:Nat),.int (TT.pv G i:Nat)]) z8 z9).set 2 (.tr ((N3 i s.o0 s.o1 (λq=>if q∈h.take nb then i+3 else s.o2 q)).put [] (.lst (((List.range i).map λj=>oN [s.o0 (j+3),s.o1 (j+3),(λq=>if q∈h.take nb then i+3 else s.o2 q) (j+3)])++[.lst [.leaf (.int (x:Int)),.leaf (.int (y:Int)),.leaf (.int ((2:Nat):Int))]]))))) _
  rw[eo];show W K _ (rh m F G (N3 (i+1) (TT.put s.o0 (i+3) x) (TT.put s.o1 (i+3) y) (TT.put (λq=>if q∈h.take nb then i+3 else s.o2 q) (i+3) 2)) (G9 (i+4) s.i0 s.i1 (TT.put s.i2 (i+3) (h.take nb))) (s.path.drop na) (h.drop nb) (.val (.int (i:Int))) (.own [.int (TT.pv F i:Nat),.int (TT.pv G i:Nat)]) z8 z9) _
  refine B4 (o8 (u0:=G9 (i+4) s.i0 s.i1 (TT.put s.i2 (i+3) (h.take nb))) (π:=[]++[x]++[0]) (aK7 0 (aK7 x aH8 (E4 (K4 rfl) (aS2 A9) rfl hpl) rfl (λu _=>⟨u,rfl⟩)) A9 rfl (λu0 h=>by cases h;exact⟨_,aJ0 (by lia)⟩)) rfl (dH1 (by lia)) (bE9 (L9 A9 (A1 rfl))) ?_ ?_ (a8 rfl rfl c8 c9))
  .rw[Aa3];unfold sizeLine;lia
  have ej:=cP4 (n:=i+4) (q:=x) (i0:=s.i0) (i1:=s.i1) (i2:=TT.put s.i2 (i+3) (h.take nb)) (by lia) (i+3)
  rw[<- e3]at ej;show W K _ ((rh m F G (N3 (i+1) (TT.put s.o0 (i+3) x) (TT.put s.o1 (i+3) y) (TT.put (λq=>if q∈h.take nb then i+3 else s.o2 q) (i+3) 2)) (G9 (i+4) s.i0 s.i1 (TT.put s.i2 (i+3) (h.take nb))) (s.path.drop na) (h.drop nb) (.val (.int (i:Int))) (.own [.int (TT.pv F i:Nat),.int (TT.pv G i:Nat)]) z8 z9).set 3 (.tr ((G9 (i+4) s.i0 s.i1 (TT.put s.i2 (i+3) (h.take nb))).put ([]++[x]++[0]) (.lst (((s.i0 x).map λ(x:Nat)=>OT.leaf (.int (x:Int)))++[.leaf (.int (3+(i:Int)))]))))) _
  rw[ej];show W K _ (rh m F G (N3 (i+1) (TT.put s.o0 (i+3) x) (TT.put s.o1 (i+3) y) (TT.put (λq=>if q∈h.take nb then i+3 else s.o2 q) (i+3) 2)) (G9 (i+4) (TT.put s.i0 x (s.i0 x++[i+3])) s.i1 (TT.put s.i2 (i+3) (h.take nb))) (s.path.drop na) (h.drop nb) (.val (.int (i:Int))) (.own [.int (TT.pv F i:Nat),.int (TT.pv G i:Nat)]) z8 z9) _
  refine B4 (o8 (u0:=G9 (i+4) (TT.put s.i0 x (s.i0 x++[i+3])) s.i1 (TT.put s.i2 (i+3) (h.take nb))) (π:=[]++[y]++[1]) (aK7 1 (aK7 y aH8 (E4 (K4 rfl) (aS2 A9) rfl hhl) rfl (λu _=>⟨u,rfl⟩)) A9 rfl (λu0 h=>by cases h;exact⟨_,aJ0 (by lia)⟩)) rfl (dB7 (by lia)) (bE9 (L9 A9 (A1 rfl))) ?_ ?_ (a8 rfl rfl c8 c9))
  .rw[Aa3];unfold sizeLine;lia
  have ek:=cW1 (n:=i+4) (q:=y) (i0:=TT.put s.i0 x (s.i0 x++[i+3])) (i1:=s.i1) (i2:=TT.put s.i2 (i+3) (h.take nb)) (by lia) (i+3)
  rw[<- e3]at ek;show W K _ ((rh m F G (N3 (i+1) (TT.put s.o0 (i+3) x) (TT.put s.o1 (i+3) y) (TT.put (λq=>if q∈h.take nb then i+3 else s.o2 q) (i+3) 2)) (G9 (i+4) (TT.put s.i0 x (s.i0 x++[i+3])) s.i1 (TT.put s.i2 (i+3) (h.take nb))) (s.path.drop na) (h.drop nb) (.val (.int (i:Int))) (.own [.int (TT.pv F i:Nat),.int (TT.pv G i:Nat)]) z8 z9).set 3 (.tr ((G9 (i+4) (TT.put s.i0 x (s.i0 x++[i+3])) s.i1 (TT.put s.i2 (i+3) (h.take nb))).put ([]++[y]++[1]) (.lst (((s.i1 y).map λ(x:Nat)=>OT.leaf (.int (x:Int)))++[.leaf (.int (3+(i:Int)))]))))) _
  rw[ek];show W K _ (rh m F G (N3 (i+1) (TT.put s.o0 (i+3) x) (TT.put s.o1 (i+3) y) (TT.put (λq=>if q∈h.take nb then i+3 else s.o2 q) (i+3) 2)) (G9 (i+4) (TT.put s.i0 x (s.i0 x++[i+3])) (TT.put s.i1 y (s.i1 y++[i+3])) (TT.put s.i2 (i+3) (h.take nb))) (s.path.drop na) (h.drop nb) (.val (.int (i:Int))) (.own [.int (TT.pv F i:Nat),.int (TT.pv G i:Nat)]) z8 z9) _
  refine P5 (ds:=nI (s.path.drop na).reverse) rfl (L9 A9 (A1 rfl)) ?_ ⟨.val (.int (i:Int)),.own [.int (TT.pv F i:Nat),.int (TT.pv G i:Nat)],z8,z9,⟨rfl,rfl,c8,c9⟩,?_⟩ (a8 rfl rfl c8 c9)
  .rw[C8,Ae1,Ay];unfold sizeLine;lia
  rw[hst];simp only[TT.S.step,sk,hh,ex,ey,Bz];rw[e3];unfold rh
  simp[nI]
  rfl
 .rintro _ ⟨X,U,x8,g,⟨b6,b7,b8,b9⟩,rfl⟩;have em:(P6 0 (((fl F m).map PyData.int).length:Int).toNat).length=m:=by rw[U9,N];lia
  rw[em];have GI:=TT.E1 R m (Aa7 _);have Lm:=TT.aM8 GI.inv;have I2:=TT.cU8 R m (Aa7 _);have pl:=GI.p;have hl:=GI.h;have gk:=GI.k;have gle:=GI.le;have gle2:=GI.le2;obtain⟨p,hp⟩:=GI.inv.pe;obtain⟨h,hh⟩:=GI.inv.he;have R2:=dJ8 hp hh;have R0:=TT.aC5 (s:=TT.gst F G m);have R1:=TT.aK6 (s:=TT.gst F G m);have RI:∀q,3<=q->q<m+3->(TT.gst F G m).row q=_:=λq h1 h2=>TT.M7 h1 (by rw[gk];exact h2)
  generalize hs:TT.gst F G m=s at Lm I2 pl hl gk hp hh R2 R0 R1 RI k ⊢;rw[gk]at Lm;refine B4 (bL0 (λk ρ=>∃j,j+k+1=s.path.length/\ρ=rh m F G (N3 m s.o0 s.o1 s.o2) (G9 (m+3) s.i0 s.i1 s.i2) (s.path.drop j) (s.h1 j) X U x8 g) ⟨s.path.length-1,0,by rw[hp];simp,rfl⟩ ?_)
  rintro k0 _ ⟨j,M,rfl⟩;refine⟨_,D1 (U7 (O7 (A5 (K4 rfl) B1)) A9),?_⟩;have el:(nI (s.path.drop j).reverse).length=k0+1:=by rw[C8,Ae1,Ay];lia
  rw[el];by_cases hk:k0=0
  .subst hk;rw[Ac (by simp)]
   have ej:s.path.drop j=[0]:=by
    rw[hp,Ab7]at M;rw[hp,List.drop_append,List.drop_of_length_le (by simp at M;lia)]
    have:j-p.length=0:=by simp at M;lia
    rw[this];rfl
   have eh:s.h1 j=(p.reverse++h)++[1]:=by
    unfold TT.S.h1;rw[hp,Ab7]at M;rw[hp,hh,List.take_append_of_le_length (by simp at M;lia),Cr (by simp at M;lia)]
    simp
   rw[ej,eh];generalize hq:p.reverse++h=q at R2;have ql:q.length<=3000:=by
    have:=Lm 2
    rw[R2]at this;simp at this;lia
   have ei:s.i2=TT.put s.i2 2 (q.take 0):=by
    funext z;by_cases e:z=2
    .rw[e,TT.B7,I2];rfl
    .rw[TT.C2 e]
   rw[ei];refine B4 (bL0 (λk ρ=>∃j,j+k=q.length/\ρ=rh m F G (N3 m s.o0 s.o1 s.o2) (G9 (m+3) s.i0 s.i1 (TT.put s.i2 2 (q.take j))) [0] ((q++[1]).drop j) X U x8 g) ⟨q.length,0,by lia,rfl⟩ ?_)
   rintro k1 _ ⟨Y,hj1,rfl⟩;refine⟨_,D1 (U7 (O7 (A5 (K4 rfl) B1)) A9),?_⟩;have el:(nI ((q++[1]).drop Y).reverse).length=k1+1:=by rw[C8,Ae1,Ay];simp;lia
   rw[el];by_cases hk:k1=0
   .subst hk;rw[Ac (by simp)]
    have ej1:Y=q.length:=by lia
    subst ej1;rw[Cg];refine cW7 (i:=3) rfl (cW7 (i:=2) rfl ?_);rw[cL9,cH6];show W K _ (rh2 m F G (.list ((List.range m).map λj=>lN [s.o0 (j+3),s.o1 (j+3),s.o2 (j+3)])) (.list ((List.range (m+3)).map λz=>.tuple [lN (s.i0 z),lN (s.i1 z),lN (TT.put s.i2 2 q z)])) (nI ([0]:AB).reverse) (nI ((q++[1]).drop q.length).reverse) X U x8 g .no .no .no .no) _
    generalize hiD:(PyData.list ((List.range (m+3)).map λz=>.tuple [lN (s.i0 z),lN (s.i1 z),lN (TT.put s.i2 2 q z)]))=iD
    generalize hoD:(PyData.list ((List.range m).map λj=>lN [s.o0 (j+3),s.o1 (j+3),s.o2 (j+3)]))=oD
    generalize hpD:nI ([0]:AB).reverse=pD;generalize hhD:nI ((q++[1]).drop q.length).reverse=hD;show W K _ (rh2 m F G oD iD pD hD X U x8 g .no .no .no .no) _;have sqi:sq iD=some ((List.range (m+3)).map λz=>.tuple [lN (s.i0 z),lN (s.i1 z),lN (TT.put s.i2 2 q z)]):=by rw[<- hiD];rfl
    have sqo:sq oD=some ((List.range m).map λj=>lN [s.o0 (j+3),s.o1 (j+3),s.o2 (j+3)]):=by rw[<- hoD];rfl
    have L0:=Lm 0
    have L1:=Lm 1
    have L2':=Lm 2
    rw[R0]at L0;rw[R1]at L1;rw[R2]at L2';simp only[Aw,Ab7,Ae1,List.length_nil]at L0 L1 L2';refine B4 (K2 (ds:=[lN (s.row 0)]) (J8 (A5 (EF.toN (M1 (l:=[1]++s.i0 0) (l':=[2]) (EF.e' (M1 (l:=[1]) (l':=s.i0 0) (EF.e' (J8 (A5 A9 B1))) (E4 (E4 (A1 rfl) A9 sqi (aN9 (q:=0) (by lia))) A9 rfl rfl) (by simp;lia))) (EF.e' (J8 (A5 A9 B1))) (by simp;lia)) (by rw[R0];simp)) B1)) ?_ (show 10<14 by decide))
    show W K _ (rh2 m F G oD iD pD hD X U x8 g (.own [lN (s.row 0)]) .no .no .no) _
    refine B4 (P5 (d:=lN (s.row 1)) rfl (EF.toN (M1 (l:=[2]++(s.i1 1).reverse) (l':=[0]) (EF.e' (M1 (l:=[2]) (l':=(s.i1 1).reverse) (EF.e' (J8 (A5 A9 B1))) (EF.e' (cF7 (E4 (E4 (A1 rfl) A9 sqi (aN9 (q:=1) (by lia))) A9 rfl rfl))) (by simp;lia))) (EF.e' (J8 (A5 A9 B1))) (by simp;lia)) (by rw[R1];simp)) (by show 1<_;unfold sizeLine;lia) ?_ (bZ2 b6 b7 b8 b9 rfl rfl rfl rfl))
    show W K _ (rh2 m F G oD iD pD hD X U x8 g (.own [lN (s.row 0),lN (s.row 1)]) .no .no .no) _
    refine B4 (P5 (d:=lN (s.row 2)) rfl (EF.toN (M1 (l:=[0]++TT.put s.i2 2 q 2) (l':=[1]) (EF.e' (M1 (l:=[0]) (l':=TT.put s.i2 2 q 2) (EF.e' (J8 (A5 A9 B1))) (E4 (E4 (A1 rfl) A9 sqi (aN9 (q:=2) (by lia))) A9 rfl rfl) (by rw[TT.B7];simp;lia))) (EF.e' (J8 (A5 A9 B1))) (by rw[TT.B7];simp;lia)) (by rw[R2,TT.B7];simp)) (by show 2<_;unfold sizeLine;lia) ?_ (bZ2 b6 b7 b8 b9 rfl rfl rfl rfl))
    show W K _ (rh2 m F G oD iD pD hD X U x8 g (.own ((List.range (0+3)).map λz=>lN (s.row z))) .no .no .no) _
    refine B4 (N2 (Q4 (A5 (O7 (A5 (A1 rfl) B1) sqo) B1) ?_ ?_) (λv ρ=>∃x11 x12 x13,(x11.nb=true/\x12.nb=true/\x13.nb=true)/\ρ=rh2 m F G oD iD pD hD X U x8 g (.own ((List.range (v+3)).map λz=>lN (s.row z))) x11 x12 x13) ⟨.no,.no,.no,⟨rfl,rfl,rfl⟩,rfl⟩ ?_ ?_)
    .simp <;> lia
    .simp <;> lia
    .rintro v d _ J ⟨x11,x12,x13,⟨b11,b12,b13⟩,rfl⟩;obtain⟨rfl,hv⟩:=Q6 J;have hv:v<m:=by simpa using hv
     have e3:(3:Int)+(v:Int)=((v+3:Nat):Int):=by lia
     have i2v:TT.put s.i2 2 q (v+3)=s.i2 (v+3):=TT.C2 (by lia)
     have Rv:=RI (v+3) (by lia) (by lia)
     have Lv:=Lm (v+3)
     rw[Rv]at Lv;simp only[Aw,Ab7,Ae1]at Lv;refine⟨_,D5,?_⟩;refine B4 (F8 (d:=.tuple [lN (s.i0 (v+3)),lN (s.i1 (v+3)),lN (s.i2 (v+3))]) (E4 (A1 rfl) (L9 A9 (A1 rfl)) sqi ?_) ?_)
     .rw[e3,aN9 (by lia),i2v]
     show W K _ (rh2 m F G oD iD pD hD X U x8 g (.own ((List.range (v+3)).map λz=>lN (s.row z))) (.val (.int (v:Int))) (.val (.tuple [lN (s.i0 (v+3)),lN (s.i1 (v+3)),lN (s.i2 (v+3))])) x13) _
     refine B4 (K2 (ds:=nI ([s.o0 (v+3)]++s.i2 (v+3)++[s.o1 (v+3)]++s.i0 (v+3))) (M1 (EF.e' (M1 (l':=[s.o1 (v+3)]) (EF.e' (M1 (l:=[s.o0 (v+3)]) (EF.e' (J8 (A5 (E4 (d':=.int (s.o0 (v+3):Nat)) (E4 (A1 rfl) (A1 rfl) sqo (aN9 hv)) A9 rfl rfl) B1) (show 1<=16777216 by decide))) (E4 (A1 rfl) A9 rfl rfl) (by simp;lia)))
      (EF.e' (J8 (A5 (E4 (d':=.int (s.o1 (v+3):Nat)) (E4 (A1 rfl) (A1 rfl) sqo (aN9 hv)) A9 rfl rfl) B1) (show 1<=16777216 by decide))) (by simp;lia))) (E4 (A1 rfl) A9 rfl rfl) (by simp;lia)) ?_ (show 13<14 by decide))
     show W K _ (rh2 m F G oD iD pD hD X U x8 g (.own ((List.range (v+3)).map λz=>lN (s.row z))) (.val (.int (v:Int))) (.val (.tuple [lN (s.i0 (v+3)),lN (s.i1 (v+3)),lN (s.i2 (v+3))])) (.own (nI ([s.o0 (v+3)]++s.i2 (v+3)++[s.o1 (v+3)]++s.i0 (v+3))))) _
     refine P5 (ds:=(List.range (v+3)).map λz=>lN (s.row z)) (d:=lN (s.row (v+3))) rfl (EF.toN (M1 (l:=[s.o0 (v+3)]++s.i2 (v+3)++[s.o1 (v+3)]++s.i0 (v+3)++[s.o2 (v+3)]) (l':=(s.i1 (v+3)).reverse) (EF.e' (M1 (l:=[s.o0 (v+3)]++s.i2 (v+3)++[s.o1 (v+3)]++s.i0 (v+3)) (l':=[s.o2 (v+3)]) (K4 rfl) (EF.e' (J8 (A5 (E4 (d':=.int (s.o2 (v+3):Nat)) (E4 (A1 rfl) (A1 rfl) sqo (aN9 hv)) A9 rfl rfl) B1) (show 1<=16777216 by decide))) (by simp;lia)))
      (EF.e' (cF7 (E4 (A1 rfl) A9 rfl rfl))) (by simp;lia)) (by rw[Rv];simp)) ?_ ⟨.val (.int (v:Int)),.val (.tuple [lN (s.i0 (v+3)),lN (s.i1 (v+3)),lN (s.i2 (v+3))]),.own (nI ([s.o0 (v+3)]++s.i2 (v+3)++[s.o1 (v+3)]++s.i0 (v+3))),⟨rfl,rfl,rfl⟩,?_⟩ (bZ2 b6 b7 b8 b9 rfl rfl rfl rfl)
     .rw[Aa3,Bo];unfold sizeLine;lia
     .have er:(List.range (v+3)).map (λz=>lN (s.row z))++[lN (s.row (v+3))]=(List.range (v+1+3)).map λz=>lN (s.row z):=by
       rw[show v+1+3=(v+3)+1 by lia,Bd (n:=v+3),Ad2];rfl
      rw[er];rfl
    rintro _ ⟨x11,x12,x13,⟨b11,b12,b13⟩,rfl⟩;rw[U9];have e4:((((List.range m).map λj=>lN [s.o0 (j+3),s.o1 (j+3),s.o2 (j+3)]).length:Int)).toNat=m:=by simp
    rw[e4];refine bE4 (i:=10) rfl ?_;exact M8 (o9 (A5 (A1 rfl) (A5 (A1 rfl) B1))) (by rw[<- hoD])
   .have J:decide (((k1+1:Nat):Int)>1)=true:=by simp;lia
    rw[J,Ae rfl];have hlt:Y<q.length:=by lia
    have e1:(q++[1]).drop Y=q[Y]::(q++[1]).drop (Y+1):=by
     rw[Ao (by simp;lia),List.getElem_append_left hlt]
    have e2:q.take (Y+1)=q.take Y++[q[Y]]:=Cc hlt
    refine bW8 (i:=3) (j:=5) (d:=.int (q[Y]:Nat)) (u0:=G9 (m+3) s.i0 s.i1 (TT.put s.i2 2 (q.take Y))) (π:=[]++[2]++[2]) (aK7 2 (aK7 2 aH8 A9 rfl (λu _=>⟨u,rfl⟩)) A9 rfl (λu0 h=>by cases h;exact⟨_,aJ0 (by lia)⟩))
     (bV0 (ds:=nI ((q++[1]).drop (Y+1)).reverse) ?_ (a8 b6 b7 b8 b9)) (by decide) ⟨_,rfl,rfl⟩ rfl rfl (cB5 (by lia)) ?_ ⟨k1-1,by lia,Y+1,by lia,?_⟩ (a8 (m:=m) (F:=F) (G:=G) (o:=N3 m s.o0 s.o1 s.o2) (i:=G9 (m+3) s.i0 s.i1 (TT.put s.i2 2 (q.take Y))) (p:=[0]) (h:=(q++[1]).drop (Y+1)) b6 b7 b8 b9)
    .show some (Sl.own (nI ((q++[1]).drop Y).reverse))=_
     rw[e1,List.reverse_cons,j4];rfl
    .rw[Aa3,TT.B7,Ad1];unfold sizeLine;lia
    .rw[bT2 (by lia),cG0,TT.B7,<- e2];rfl
  .have J:decide (((k0+1:Nat):Int)>1)=true:=by simp;lia
   rw[J,Ae rfl];obtain⟨x,hx⟩:∃x,s.path[j]? = some x:=⟨_,Aa2 (by lia)⟩
   have e1:s.path.drop j=x::s.path.drop (j+1):=by
    obtain⟨h1,h2⟩:=Ab0.mp hx;rw[<- h2];exact Ao h1
   have e2:s.h1 (j+1)=x::s.h1 j:=by
    unfold TT.S.h1;obtain⟨h1,h2⟩:=Ab0.mp hx;rw[Cc h1,h2];simp
   refine bC0 (ds:=nI (s.h1 j).reverse) (bV0 (d:=.int (x:Int)) (ds:=nI (s.path.drop (j+1)).reverse) ?_ (a8 b6 b7 b8 b9)) rfl rfl ?_ ⟨k0-1,by lia,j+1,by lia,?_⟩ (a8 (m:=m) (F:=F) (G:=G) (o:=N3 m s.o0 s.o1 s.o2) (i:=G9 (m+3) s.i0 s.i1 s.i2) (p:=s.path.drop (j+1)) (h:=s.h1 j) b6 b7 b8 b9)
   .show some (Sl.own (nI (s.path.drop j).reverse))=_
    rw[e1];simp[nI]
   .rw[C8,Ae1];unfold TT.S.h1 PySem.sizeLine;simp only[Ab7,Ae1,Ad1]
    lia
   .rw[e2];unfold rh
    simp[nI]
end
theorem aT5:D4 ["_law_script", "_law_k"] ["_law_script", "_law_k"] (C3 Z6):=⟨rfl,rfl,rfl,by decide +kernel,rfl,by decide +kernel,by decide +kernel⟩
theorem sc__law_begun:D4 ["_law_turn", "_law_at"] ["_law_turn"] (C3 v6):=⟨rfl,rfl,rfl,by decide +kernel,rfl,by decide +kernel,by decide +kernel⟩
theorem cJ7:D4 ["outs", "place", "colour"] ["outs", "place", "colour"] (C3 aW2):=⟨rfl,rfl,rfl,by decide +kernel,rfl,by decide +kernel,by decide +kernel⟩
theorem cJ4 {K:Frag}{pre:AD->AD->Prop}{n:Nat}(h:∀ds d,pre ds d->ds.length=n):∀vs H Q E,spL K pre vs H Q E->vs.length=n:=λvs H Q E ⟨ds,S,d,_,r,p,_⟩=>by
 have e:=r.length
 rw[e];exact h ds d p
def cl (ns:AC)(k:Int):Int:=(ns[k.toNat]?).getD 0
def dD1 (ds:AD)(d:PyData):Prop:=∃ns k,0<=k/\ds=[lI ns,.int k]/\d=.int (cl ns k)
def tN (l:AB):PyData:=.tuple (nI l)
def cX2 (ds:AD)(d:PyData):Prop:=∃l:AB,l≠[]/\l.length<=10000/\ds=[lN l]/\d=tN (TT.G4 l)
def bM1 (ds:AD)(d:PyData):Prop:=∃(t:AA) (x c y:Nat) (r:AB),3<=x/\t[x-3]? = some r/\r[c]? = some y/\ds=[.tuple (t.map tN),.int (x:Int),.int (c:Int)]/\d=.int (y:Int)
theorem aE4 (M:Nat):∀l:AB,(l.map λ(x:Nat)=>(x:Int)).idxOf (M:Int)=l.idxOf M
 | []=>rfl
 | b::l=>by
  rw[Ac7,List.idxOf_cons,List.idxOf_cons,aE4 M l];by_cases e:b=M
  .subst e;simp
  .have e':¬(b:Int)=(M:Int):=by lia
   have h1:(b==M)=false:=by simpa using e
   have y:((b:Int)==(M:Int))=false:=by simpa using e'
   rw[h1,y]
section
variable {P:Program}{w:World}{K:Frag}{mg:Str->Option Value}{base:Heap}{a:Ad}
theorem cD5 (T:Tx K mg a):FnOk P w K mg base CX0 1 a.a5 a.Z1 ["_law_script", "_law_k"] (spV K dD1):=by
 refine T.S7.ok aT5 (T5 λds d ⟨_,_,_,e,_⟩=>by rw[e];rfl) (λm A z s H vs Q E U h=>?_)
 obtain⟨ds,S,d,Y,r,⟨y,k,X,rfl,rfl⟩,q⟩:=h;refine⟨_,(A6 (N5 (B9 aH2 (pv 1) (B8 N8 (by rfl) T.F9 Ah (A0 (pv 0) A4)) (C7 _)) (B0 (D2 (B6 D7 (pv 0) (pv 1) (λ_ _=>rfl)))) H9)
   (B0 (D2 A7))),K1 Y r ?_ q⟩
 refine B4 (V4 (D1 (U7 (A1 rfl) (O7 (A5 (A1 rfl) B1)))) (λh=>(M8 (d:=.int (cl y k)) (E4 (A1 rfl) (A1 rfl) rfl ?_) rfl)) (λh=>M2 ?_))
 .have h:k<(y.map PyData.int).length:=Am h
  rw[Aa3]at h;refine M3 k.toNat (by lia) ?_
  have g:k.toNat<y.length:=by lia
  rw[Aa9,Aa2 g];unfold cl;rw[Aa2 g];rfl
 have h:¬k<((y.map PyData.int).length:Int):=Bm h
 rw[Aa3]at h;refine(M8 A9 ?_);show PyData.int 0=.int (cl y k);unfold cl;rw[Ad6 (by lia)];rfl
theorem bE3 (T:Tx K mg a):FnOk P w K mg base CX0 1 a.aZ7 a.aX5 ["outs", "place", "colour"] (spV K bM1):=by
 refine T.aL3.ok cJ7 (T5 λds d ⟨_,_,_,_,_,_,_,_,e,_⟩=>by rw[e];rfl) (λk A z s H vs Q E M h=>?_)
 obtain⟨ds,S,d,X,r,⟨t,x,c,y,g,J,h1,Y,rfl,rfl⟩,q⟩:=h;obtain⟨U,m⟩:=T.E5;refine⟨_,(B0 (D2 (B6 D7 (B6 D7 (pv 0) (B2 L4 (pv 1) (M6 (v:=.int 3) rfl m ⟨U,rfl⟩)) (λ_ _=>rfl)) (pv 2) (λ_ _=>rfl)))),K1 X r ?_ q⟩
 exact M8 (d:=.int (y:Int)) (E4 (E4 (d':=tN g) (A1 rfl) (L9 (A1 rfl) A9) rfl (M3 (x-3) (by lia) (by rw[Aa9,h1];rfl))) (A1 rfl) rfl (M3 c rfl (by unfold nI;rw[Aa9,Y];rfl))) rfl
theorem cN4 (T:Tx K mg a):FnOk P w K mg base CX0 1 a.v8 a.aA0 ["_law_turn"] (spV K cX2):=by
 refine T.aN3.ok sc__law_begun (T5 λds d ⟨_,_,_,e,_⟩=>by rw[e];rfl) (λN A J s H vs Q E hr h=>?_)
 obtain⟨ds,S,d,D,r,⟨l,U,hl,rfl,rfl⟩,q⟩:=h;refine⟨_,(A6 (C0 (i:=1) sc__law_begun.nd rfl (Or.inl rfl) (J9 Ab1 PySem.F.slot_list_index PySem.F.type_list_index (cM3 K) (pv 0) (A0 (B8 (cI5 K rfl) (by rfl) T.bQ1 boot_min (A0 (pv 0) A4)) A4)))
   (B0 (D2 (K3 aH5 (by rfl) T.P1 boot_tuple (A0 (B2 (J4 K) (S0 aU7 (pv 0) (X5 (pv 1)) X0) (S0 aU7 (pv 0) X0 (X5 (pv 1)))) A4))))),K1 D r ?_ q⟩
 obtain⟨k,X⟩:=TT.aO0 U;have R:lN l=lI (l.map λ(x:Nat)=>(x:Int)):=by unfold lN lI nI;simp
 have M:((TT.mn l:Nat):Int)∈(l.map λ(x:Nat)=>(x:Int))/\∀z∈(l.map λ(x:Nat)=>(x:Int)),((TT.mn l:Nat):Int)<=z:=⟨Aa8.mpr ⟨_,k,rfl⟩,λz hz=>by
  obtain⟨y,B,rfl⟩:=Aa8.mp hz
  have:=X y B
  lia⟩
 have Y:=aE4 (TT.mn l) l
 have g:l.idxOf (TT.mn l)<=l.length:=Dh (Ac4 k)
 refine B4 (F8 (d:=.int (l.idxOf (TT.mn l):Nat)) ?_ ?_)
 .have h:=cN9 (K:=K) (m:=true) (ρ:=sl0 ["_law_turn", "_law_at"].length [lI (l.map λ(x:Nat)=>(x:Int))]) (ta:=J7 0) (A1 (i:=0) rfl) (eB1 (A5 (A1 (i:=0) rfl) B1) M) M.1
  rw[Y]at h;rw[R];exact h
 refine M8 (e7 (A5 (EF.e' (bA3 (EF.e' (cE8 (ds:=nI l) (A1 rfl) (aC0 (A1 rfl)) y0 (F5 l))) (EF.e' (cE8 (ds:=nI l) (A1 rfl) y0 (aC0 (A1 rfl)) (F5 l))) (P0 _ _ (F5 l)) (P0 _ _ (F5 l)) ?_)) B1) ?_) ?_
 .rw[u7 (by rw[C8];exact g),aQ4 (by rw[C8];exact g),Ay,Ad1,C8];unfold sizeLine;lia
 .rw[aD2,P0 _ _ (F5 l),P0 _ _ (F5 l)];rfl
 .show PyData.tuple _=tN _
  rw[u7 (by rw[C8];exact g),aQ4 (by rw[C8];exact g)]
  unfold tN TT.G4 nI
  simp
end
end K48
namespace LV
open PySem L2
section
variable {K:Frag}{ρ ρ' ρ1:List Sl}{m m':Bool}{t ta tb tc:TE}{d d':PyData}{ds es:AD}
theorem cR3 {i:Nat}{k:Int}{R:AE}(n:Nat)(Y:E K true t ρ d)(hi:ρ[i]? = some (.own ds))(X:E K false tb ρ (.int k))(y:k=n)(J:n<ds.length)(U:R.nx (ρ.set i (.own (ds.set n d))))(nb:V8 ρ=true:=by rfl) :
  W K (bB0 t (dW0 (J7 i) tb cN5)) ρ R:=λS B D σ H o I s=>by
 refine Y S B σ H o I _ λx g r M=>?_
 obtain⟨p,hp,a,xs,b,c⟩:=(I.grow r).own i ds hi;refine⟨_,a,?_⟩;refine X S B σ g o (I.grow r) _ λw N e z=>?_
 cases z
 have Q:=c.length
 refine⟨p,xs,k,n,rfl,rfl,e _ _ b,by unfold ixN;rw[Ae (by lia),Ae (by lia)];simp[y],?_⟩
 exact s.nx _ σ _ _ (((I.grow r).grow e).upd hi hp ((c.mono (N6 e)).set n (M.mono (N6 e))) (N0 nb)) U
theorem Reps.rep {H:Hp}{xs:List V}(r:Reps K H xs ds):∀n:Nat,Reps K H (List.replicate n xs).flatten (List.replicate n ds).flatten
 | 0=>.nil
 | n+1=>by
  rw[Bh,Bh,Ci,Ci];exact r.append (Reps.rep r n)
theorem bP9 (h:K9 ds=true):∀n:Nat,K9 (List.replicate n ds).flatten=true
 | 0=>rfl
 | n+1=>by rw[Bh,Ci,aD2,h,bP9 h n];rfl
theorem cW2 {k:Int}(J:EF K ta ρ ds)(M:E K false tb ρ (.int k))(hi:K9 ds=true)(h1 : -(2^63)<=k)(U:k<2^63)(N:ds.length*k.toNat<=sizeLine):EF K (tOp eE2 ta tb) ρ (List.replicate k.toNat ds).flatten:=λS B σ H o I Q q=>
 J S B σ H o I _ λp xs s r P X D=>M S B σ s o (I.grow r) _ λy Y z F=>by
  cases F
  have g:Reps K Y xs ds:=(D.mono i9).mono z
  refine⟨p,k,xs,rfl,rfl,z _ _ X,h1,U,by rw[g.length];exact N,λR e=>?_⟩
  exact q R _ _ (L2.Same.tr (L2.Same.tr r z) (D8 e)) (T1 (L2.Same.tr r z) e) B3 (aE1 (I.grow (L2.Same.tr r z)).lists e (g.rep _) (bP9 hi _))
end
end LV
namespace K48
open PySem L2 LV PyProof.Rows
theorem bB9:D4 ["_law_cell", "_law_k"] ["_law_cell", "_law_k"] (C3 v7):=⟨rfl,rfl,rfl,by decide +kernel,rfl,by decide +kernel,by decide +kernel⟩
theorem bV4 {i j:Int}(h : -1000000000000000000<i/\i<1000000000000000000)(h' : -1000000000000000000<j/\j<1000000000000000000):CMulB i j:=by
 have:(1000000000000000000:Nat)<2^512:=by decide
 constructor <;> lia
def mx0 (c k:Int):Int:=(c % 1000000007*(k+3)*48271+(k+1)*(k+5)*69621) % 2147483647
def mx (c k:Int):Int:=mx0 c k*40692 % 2147483399
theorem eA8 (c k:Int):0<=mx0 c k/\mx0 c k<2147483647:=⟨Cq _ (by decide),Dc _ (by decide)⟩
theorem eL2 (c k:Int):0<=mx c k/\mx c k<2147483399:=⟨Cq _ (by decide),Dc _ (by decide)⟩
def cR1 (ds:AD)(d:PyData):Prop:=∃c k,(0<=k/\k<=1000)/\ds=[.int c,.int k]/\d=.int (mx c k)
theorem cT9 {x y A B:Int}(h:0<=x/\x<=A)(h':0<=y/\y<=B):0<=x*y/\x*y<=A*B:=⟨Int.mul_nonneg h.1 h'.1,Int.mul_le_mul h.2 h'.2 h'.1 (Int.le_trans h.1 h.2)⟩
section
variable {P:Program}{w:World}{K:Frag}{mg:Str->Option Value}{base:Heap}{a:Ad}
theorem bT4 (T:Tx K mg a):FnOk P w K mg base CX0 1 a.y7 a.u8 ["_law_cell", "_law_k"] (spV K cR1):=by
 refine T.aA9.ok bB9 (T5 λds d ⟨_,_,_,e,_⟩=>by rw[e];rfl) (λm A z s H vs Q E N h=>?_)
 obtain⟨ds,S,d,Y,r,⟨c,k,⟨M,h1⟩,rfl,rfl⟩,q⟩:=h;have g:0<=c % 1000000007/\c % 1000000007<=1000000007:=⟨Cq _ (by decide),Int.le_of_lt (Dc _ (by decide))⟩
 have X:=cT9 g (y:=k+3) (B:=2000) ⟨by lia,by lia⟩
 have U:=cT9 (x:=k+1) (A:=2000) (y:=k+5) (B:=2000) ⟨by lia,by lia⟩ ⟨by lia,by lia⟩
 have J:=eA8 c k
 refine⟨_,(B0 (D2 (B2 W6 (B2 R6 (B2 W6 (B2 G0 (B2 R6 (B2 R6 (B2 W6 (pv 0) A7) (B2 G0 (pv 1) A7)) A7) (B2 R6 (B2 R6 (B2 G0 (pv 1) A7) (B2 G0 (pv 1) A7)) A7)) A7) A7) A7))),K1 Y r ?_ q⟩;refine M8 (d:=.int (mx c k)) (e_i (e_i (i:=mx0 c k) (e_i (L9 (e_i (e_i (e_i (A1 rfl) A9 ?_) (L9 (A1 rfl) A9) ?_) A9 ?_) (e_i (e_i (L9 (A1 rfl) A9) (L9 (A1 rfl) A9) ?_) A9 ?_)) A9 ?_) A9 (bV4 (by lia) (by lia))) A9 (by decide)) rfl
 .decide
 .exact bV4 (by lia) (by lia)
 .exact bV4 (by lia) (by lia)
 .exact bV4 (by lia) (by lia)
 .exact bV4 (by lia) (by lia)
 .decide
end
def rs (c:Int):Nat->Int
 | 0=>c / 2
 | j+1=>rs c j / 4096
theorem bO9 {α β:Type}{f g:α->Option β}:∀{l:List α},(∀x∈l,f x=g x)->l.filterMap f=l.filterMap g
 | [],_=>rfl
 | a::l,h=>by rw[Ak,Ak,h a (by simp),bO9 λx e=>h x (by simp[e])]
theorem sc__law_counts:D4 ["_law_cell", "_law_cells", "_law_m", "_law_first", "_law_second", "_law_rest", "_law_i", "_law_number", "_law_low"] ["_law_cell", "_law_cells", "_law_m"] (C3 j7):=⟨rfl,rfl,rfl,by decide +kernel,rfl,by decide +kernel,by decide +kernel⟩
theorem sc__law_called:D4 ["_law_grown_here", "_law_names", "_law_called_here", "_law_triples", "_law_v"] ["_law_grown_here", "_law_names"] (C3 i8):=⟨rfl,rfl,rfl,by decide +kernel,rfl,by decide +kernel,by decide +kernel⟩
def rr (c:Int)(j:Nat):Int:=if c % 2=1 then rs c j else c / 2
def nu (c:Int)(cells:AC)(j:Nat):Int:=if c % 2=1 then rs c j % 4096 else mx (cl cells j) j
def cL1 (ds:AD)(d:PyData):Prop:=∃(c:Int) (cells:AC) (m:Nat),m<=7/\ds=[.int c,lI cells,.int (m:Int)]/\d=.tuple [lI (fl (TT.rF (nu c cells)) m),lI (fl (TT.rG (nu c cells)) m)]
def rb (c:Int)(cells:AC)(m:Nat)(f g:AC)(r:Int)(x6 x7 x8:Sl):List Sl:=[.val (.int c),.val (lI cells),.val (.int (m:Int)),.own (f.map PyData.int),.own (g.map PyData.int),.val (.int r),x6,x7,x8]
theorem dO6 {c:Int}{cells:AC}{m:Nat}{f g:AC}{r:Int}{x6 x7 x8:Sl}(e:x6.nb=true)(y:x7.nb=true)(z:x8.nb=true):V8 (rb c cells m f g r x6 x7 x8)=true:=by
 unfold rb;simp only[aB7,e,y,z,Bool.true_and];rfl
theorem aU9 (F:Nat->Nat)(j:Nat):fl F (j+1)=fl F j++[(F j:Int)]:=by simp[fl,Bd]
def rc (gD:PyData)(nms L T:AD)(x4:Sl):List Sl:=[.val gD,.val (.list nms),.own L,.own T,x4]
theorem dM7 {gD:PyData}{nms L T:AD}{x4:Sl}(e:x4.nb=true):V8 (rc gD nms L T x4)=true:=by
 unfold rc;simp only[aB7,e,Bool.true_and];rfl
def f3 (f:Nat->Nat):PyData->Option PyData
 | .int k=>some (.int (f k.toNat:Nat))
 | _=>none
theorem dB5 (f:Nat->Nat)(l:AB):(nI l).filterMap (f3 f)=nI (l.map f):=by
 unfold nI;rw[Dm,Ae2,<- List.filterMap_eq_map];exact bO9 λx _=>rfl
theorem aX8 {α:Type}(a:α):∀n:Nat,(List.replicate n [a]).flatten=List.replicate n a
 | 0=>rfl
 | n+1=>by rw[Bh,Ci,aX8 a n];rfl
theorem EF.to {K:Frag}{t:TE}{ρ:List Sl}{ds es:AD}(h:LV.EF K t ρ ds)(e:ds=es):LV.EF K t ρ es:=e▸h
theorem dZ8 {F G:Nat->Nat}{m v:Nat}(R:TT.Rws F G m)(r:v<m+3):(TT.gst F G m).row v≠[]:=by
 have e:=TT.E1 R m (Aa7 _)
 obtain⟨p,hp⟩:=e.inv.pe;by_cases y:v=0
 .subst y;rw[TT.aC5];simp
 .by_cases h1:v=1
  .subst h1;rw[TT.aK6];simp
  .by_cases z:v=2
   .subst z;rw[TT.Y4,hp];simp
   .rw[TT.M7 (by lia) (by rw[e.k];exact r)];simp
theorem nms_at {nms:AB}{n p:Nat}(e:nms.length=n)(h:p<n):atI (nI nms) (p:Int)=some (.int (nms.getD p 0:Nat)):=by
 refine M3 p rfl ?_;unfold nI;rw[Aa9,Ac0,Aa2 (by lia)];rfl
theorem bO4 {L:AD}{f:Nat->Nat}{n j:Nat}{g:Nat->PyData}{x:PyData}(y:f j<L.length)(inj:∀v,v<j->f v≠f j)(h:∀v,v<j->L[f v]? = some (g v))(r:x=g j):∀v,v<j+1->(L.set (f j) x)[f v]? = some (g v):=λv k=>by
 by_cases e:v=j
 .subst e;rw[Be y,r]
 .rw[Ad0 (λz=>inj v (by lia) z.symm)];exact h v (by lia)
theorem aY4 {x:PyData}(e:imm x=true):∀{L:AD} (n:Nat),K9 L=true->K9 (L.set n x)=true
 | [],_,h=>h
 | a::L,0,h=>by simp[K9]at h ⊢;exact⟨e,h.2⟩
 | a::L,n+1,h=>by simp[K9]at h ⊢;exact⟨h.1,aY4 e n h.2⟩
theorem bT9 (l:AB):imm (tN l)=true:=by unfold tN;simp[imm,F5]
def gD (F G:Nat->Nat)(m:Nat):PyData:=.tuple [.list ((List.range (m+3)).map λv=>lN ((TT.gst F G m).row v)),.list ((List.range m).map λv=>lN [(TT.gst F G m).o0 (v+3),(TT.gst F G m).o1 (v+3),(TT.gst F G m).o2 (v+3)])]
def cL2 (ds:AD)(d:PyData):Prop:=∃(F G:Nat->Nat) (m:Nat) (nms:AB) (dr tr:AA),m<=7/\nms.length=m+3/\TT.Bt F G m (λv=>nms.getD v 0) dr tr/\ds=[gD F G m,lN nms]/\d=.tuple [.tuple (dr.map tN),.tuple (tr.map tN)]
section
variable {P:Program}{w:World}{K:Frag}{mg:Str->Option Value}{base:Heap}{a:Ad}
theorem cJ6 (T:Tx K mg a):FnOk P w K mg base CX0 2 a.i7 a.j9 ["_law_cell", "_law_cells", "_law_m"] (spV K cL1):=by
 have g:FnOk P w K mg base CX0 1 _ _ _ _:=bT4 T
 have z:FnOk P w K mg base CX0 1 _ _ _ _:=cD5 T
 refine T.aG9.ok sc__law_counts (T5 λds d ⟨_,_,_,_,e,_⟩=>by rw[e];rfl) (λcdv A outer s H vs Q E hr h=>?_)
 obtain⟨ds,S,d,hS,r,⟨c,y,m,hm,rfl,rfl⟩,q⟩:=h;refine⟨_,(A6 (C0 (i:=3) sc__law_counts.nd rfl (Or.inl rfl) (C9 A4))
   (A6 (C0 (i:=4) sc__law_counts.nd rfl (Or.inl rfl) (C9 A4))
   (A6 (C0 (i:=5) sc__law_counts.nd rfl (Or.inl rfl) (B2 aL0 (pv 0) A7))
   (A6 (G5 Aj rfl (G8 rfl T.J0 (A0 (pv 2) A4)) (C5 (i:=6) sc__law_counts.nd rfl (Or.inl rfl)) (A6 (C0 (i:=7) sc__law_counts.nd rfl (Or.inl rfl) (C6 g (hr.mono (by decide)) rfl T.aN2 T.aA9.kp T.aO3 .nil E2 (A0 (C6 z (hr.mono (by decide)) rfl T.Y1 T.S7.kp T.Y3 .nil E2 (A0 (pv 1) (A0 (pv 6) A4))) (A0 (pv 6) A4))))
   (A6 (N5 (B9 i5 (B2 W6 (pv 0) A7) A7 (C7 _)) (A6 (C0 (i:=7) sc__law_counts.nd rfl (Or.inl rfl) (B2 W6 (pv 5) A7))
   (B0 (C0 (i:=5) sc__law_counts.nd rfl (Or.inl rfl) (B2 aL0 (pv 5) A7)))) H9)
   (A6 (C0 (i:=8) sc__law_counts.nd rfl (Or.inl rfl) (aK5 (B9 t5 (pv 6) A7 (C7 _)) (B6 (ixK K) (pv 3) (aH3 m5 A7) (λ_ _=>rfl)) A7))
   (A6 (E8 (J9 Ab1 Ag Af D9 (pv 3) (A0 (B2 G0 (pv 8) (B2 W6 (pv 7) (B2 L4 (B2 G0 (pv 6) A7) (pv 8)))) A4)))
   (A6 (C0 (i:=8) sc__law_counts.nd rfl (Or.inl rfl) (aK5 (B9 t5 (pv 6) A7 (C7 _)) (B6 (ixK K) (pv 4) (aH3 m5 A7) (λ_ _=>rfl)) A7))
   (B0 (E8 (J9 Ab1 Ag Af D9 (pv 4) (A0 (B2 G0 (pv 8) (B2 W6 (B2 aL0 (pv 7) A7) (B2 L4 (B2 G0 (B6 (ixK K) (pv 3) (aH3 m5 A7) (λ_ _=>rfl)) A7) (pv 8)))) A4))))))))))
   (B0 (D2 (O1 (A0 (pv 3) (A0 (pv 4) A4))))))))),K1 hS r ?_ q⟩
 generalize hN:nu c y=N;refine B4 (K2 (J8 B1) ?_ (show 3<9 by decide))
 refine B4 (K2 (J8 B1) ?_ (show 4<9 by decide))
 refine B4 (F8 (d:=.int (c / 2)) (e_i (A1 rfl) A9 ⟨by decide,by decide⟩) ?_)
 have r0:rr c 0=c / 2:=by unfold rr rs;split <;> rfl
 rw[<- r0];refine B4 (N2 (Q4 (A5 (A1 rfl) B1) ?_ ?_) (λj ρ=>∃J M Y,(J.nb=true/\M.nb=true/\Y.nb=true)/\ρ=rb c y m (fl (TT.rF N) j) (fl (TT.rG N) j) (rr c j) J M Y) ⟨.no,.no,.no,⟨rfl,rfl,rfl⟩,rfl⟩ ?_ ?_)
 .lia
 .lia
 .rintro j d _ hd ⟨J,M,Y,⟨b6,b7,b8⟩,rfl⟩;obtain⟨rfl,hj⟩:=Q6 hd;have hj:j<m:=by lia
  have PF:=TT.bH9 N j
  have k:N j=nu c y j:=by rw[hN]
  have nn:0<=N j:=by
   rw[k];unfold nu;split
   .exact Cq _ (by decide)
   .exact(eL2 _ _).1
  refine⟨_,D5,?_⟩;refine B4 (F8 (d:=.int (mx (cl y j) j)) (E6 (A5 (E6 (A5 (A1 rfl) (A5 (A1 rfl) B1)) ⟨y,j,by lia,rfl,rfl⟩) (A5 (A1 rfl) B1)) ⟨_,j,by lia,rfl,rfl⟩) ?_)
  show W K _ (rb c y m (fl (TT.rF N) j) (fl (TT.rG N) j) (rr c j) (.val (.int (j:Int))) (.val (.int (mx (cl y j) j))) Y) _
  refine B4 (cO3 (rb c y m (fl (TT.rF N) j) (fl (TT.rG N) j) (rr c (j+1)) (.val (.int (j:Int))) (.val (.int (N j))) Y) (D1 (aD5 (e_i (A1 rfl) A9 (by decide)) A9)) (λh=>B4 (F8 (d:=.int (rr c j % 4096)) (e_i (A1 rfl) A9 (by decide)) (F8 (d:=.int (rr c j / 4096)) (e_i (A1 rfl) A9 ⟨by decide,by decide⟩) ?_))) (λh=>M2 ?_) ?_)
  .have h:c % 2=1:=Am h
   have R:rr c (j+1)=rr c j / 4096:=by unfold rr;rw[Ae h,Ae h];rfl
   have D:N j=rr c j % 4096:=by rw[k];unfold nu rr;rw[Ae h,Ae h]
   rw[R,D];rfl
  .have h:¬c % 2=1:=Bm h
   have R:rr c (j+1)=rr c j:=by unfold rr;rw[Ac h,Ac h]
   have D:N j=mx (cl y j) j:=by rw[k];unfold nu;rw[Ac h]
   rw[R,D]
  have U:∀(X:Nat->Nat) (p:Nat),p=TT.pv X j->((j:Int)>0->atI ((fl X j).map PyData.int) (-1)=some (.int (p:Int))):=λX p hp h=>by
   obtain⟨i,rfl⟩:∃i,j=i+1:=⟨j-1,by lia⟩
   rw[aU9,Ad2,hp];exact aF2
  refine B4 (F8 (d:=.int ((TT.pfg N j).1:Nat)) (dF3 (D1 (U7 (A1 rfl) A9)) (λh=>LV.E.imm (E4 (K4 rfl) (aS2 A9) rfl (U (TT.rF N) _ (TT.eF0 N j).symm (Am h)))) (λh=>?_)) ?_)
  .have h:¬(j:Int)>0:=Bm h
   have:j=0:=by lia
   subst this;exact A9
  show W K _ (rb c y m (fl (TT.rF N) j) (fl (TT.rG N) j) (rr c (j+1)) (.val (.int (j:Int))) (.val (.int (N j))) (.val (.int ((TT.pfg N j).1:Nat)))) _
  have eF:((TT.pfg N j).1:Int)+N j % ((j:Int)+1-((TT.pfg N j).1:Int))=(TT.rF N j:Int):=by
   rw[TT.bT3]
   have:=Cq (N j) (b:=(j:Int)+1-(TT.pfg N j).1) (by lia)
   lia
  refine B4 (P5 rfl (L9 (A1 rfl) (e_i (A1 rfl) (L9 (L9 (A1 rfl) A9) (A1 rfl)) (by lia))) (by rw[Aa3];simp[fl];unfold sizeLine;lia) ?_ (dO6 rfl rfl rfl))
  rw[eF];have F:(fl (TT.rF N) j).map PyData.int++[PyData.int (TT.rF N j:Int)]=(fl (TT.rF N) (j+1)).map PyData.int:=by rw[aU9];simp
  rw[F];show W K _ (rb c y m (fl (TT.rF N) (j+1)) (fl (TT.rG N) j) (rr c (j+1)) (.val (.int (j:Int))) (.val (.int (N j))) (.val (.int ((TT.pfg N j).1:Nat)))) _;refine B4 (F8 (d:=.int ((TT.pfg N j).2:Nat)) (dF3 (D1 (U7 (A1 rfl) A9)) (λh=>LV.E.imm (E4 (K4 rfl) (aS2 A9) rfl (U (TT.rG N) _ (TT.eD9 N j).symm (Am h)))) (λh=>?_)) ?_)
  .have h:¬(j:Int)>0:=Bm h
   have:j=0:=by lia
   subst this;exact A9
  show W K _ (rb c y m (fl (TT.rF N) (j+1)) (fl (TT.rG N) j) (rr c (j+1)) (.val (.int (j:Int))) (.val (.int (N j))) (.val (.int ((TT.pfg N j).2:Nat)))) _
  have rFj:TT.rF N j=(TT.pfg N (j+1)).1:=rfl
  have rFle:(TT.pfg N j).1<=TT.rF N j:=by rw[TT.bT3];lia
  have eG:((TT.pfg N j).2:Int)+N j / 64 % ((TT.rF N j:Int)+1-((TT.pfg N j).2:Int))=(TT.rG N j:Int):=by
   rw[TT.cM9]
   have:=Cq (N j / 64) (b:=(TT.rF N j:Int)+1-(TT.pfg N j).2) (by lia)
   lia
  have hlF:atI ((fl (TT.rF N) (j+1)).map PyData.int) (-1)=some (.int (TT.rF N j:Int)):=by rw[aU9,Ad2];exact aF2
  refine P5 rfl (L9 (A1 rfl) (e_i (e_i (A1 rfl) A9 ⟨by decide,by decide⟩) (L9 (L9 (E4 (K4 rfl) (aS2 A9) rfl hlF) A9) (A1 rfl)) (by lia))) (by rw[Aa3];simp[fl];unfold sizeLine;lia) ?_ (dO6 rfl rfl rfl)
  rw[eG];have B:(fl (TT.rG N) j).map PyData.int++[PyData.int (TT.rG N j:Int)]=(fl (TT.rG N) (j+1)).map PyData.int:=by rw[aU9];simp
  rw[B];exact⟨.val (.int (j:Int)),.val (.int (N j)),.val (.int ((TT.pfg N j).2:Nat)),⟨rfl,rfl,rfl⟩,rfl⟩
 rintro _ ⟨J,M,Y,⟨b6,b7,b8⟩,rfl⟩;rw[U9,Ac8];refine bE4 (i:=3) rfl (bE4 (i:=4) rfl ?_);exact M8 (o9 (A5 (A1 rfl) (A5 (A1 rfl) B1))) rfl
theorem cK6 (T:Tx K mg a):FnOk P w K mg base CX0 2 a.l9 a.k9 ["_law_grown_here", "_law_names"] (spV K cL2):=by
 have Y:FnOk P w K mg base CX0 1 _ _ _ _:=cN4 T
 refine T.aG6.ok sc__law_called (T5 λds d ⟨_,_,_,_,_,_,_,_,_,e,_⟩=>by rw[e];rfl) (λcdv A outer s H vs Q E hr h=>?_)
 obtain⟨ds,S,d,hS,r,⟨F,G,m,y,dr,tr,hm,hnl,B,rfl,rfl⟩,q⟩:=h;refine⟨_,(A6 (C0 (i:=2) sc__law_called.nd rfl (Or.inl rfl) (B2 dA8 (C9 (A0 (O1 A4) A4)) (B8 (T9 K) (by rfl) T.F9 Ah (A0 (pv 1) A4))))
   (A6 (C0 (i:=3) sc__law_called.nd rfl (Or.inl rfl) (B2 dA8 (C9 (A0 (O1 A4) A4)) (B2 L4 (B8 (T9 K) (by rfl) T.F9 Ah (A0 (pv 1) A4)) A7)))
   (A6 (G5 Aj rfl (G8 rfl T.J0 (A0 (B8 (T9 K) (by rfl) T.F9 Ah (A0 (pv 1) A4)) A4)) (C5 (i:=4) sc__law_called.nd rfl (Or.inl rfl)) (B0 (aX1 (C6 Y (hr.mono (by decide)) rfl T.bI7 T.aN3.kp T.bJ4 .nil E2 (A0 (X1 (T:=["_law_place"]) (N':=["_law_place", "_law_names"]) (is:=[1]) rfl (.of rfl rfl rfl (by exact⟨rfl,trivial⟩) rfl rfl rfl (by exact⟨⟨_,rfl,by first | exact .inl rfl | exact .inr rfl,by first | exact .inl rfl | exact .inr rfl⟩,trivial⟩)) (P3 (B6 (ixK K) (B6 (ixK K) (pv 0) A7 (λ_ _=>rfl)) (pv 4) (λ_ _=>rfl))) (O8 (by decide)) λ_ _ _ _=>⟨(C5 (i:=0) (by decide +kernel:(["_law_place", "_law_names"]:AG).Nodup) rfl (Or.inl rfl)),aD6,(B6 (ixK K) (pv 1) (pv 0) (λ_ _=>rfl))⟩) A4)) (bK4 (pv 2) (B6 (ixK K) (pv 1) (pv 4) (λ_ _=>rfl)) aM6))))
   (A6 (G5 Aj rfl (G8 rfl T.J0 (A0 (B8 (T9 K) (by rfl) T.F9 Ah (A0 (pv 3) A4)) A4)) (C5 (i:=4) sc__law_called.nd rfl (Or.inl rfl)) (B0 (aX1 (K3 (bY6 K) (by rfl) T.P1 boot_tuple (A0 (X1 (T:=["_law_place"]) (N':=["_law_place", "_law_names"]) (is:=[1]) rfl (.of rfl rfl rfl (by exact⟨rfl,trivial⟩) rfl rfl rfl (by exact⟨⟨_,rfl,by first | exact .inl rfl | exact .inr rfl,by first | exact .inl rfl | exact .inr rfl⟩,trivial⟩)) (P3 (B6 (ixK K) (B6 (ixK K) (pv 0) A7 (λ_ _=>rfl)) (pv 4) (λ_ _=>rfl))) (O8 (by decide)) λ_ _ _ _=>⟨(C5 (i:=0) (by decide +kernel:(["_law_place", "_law_names"]:AG).Nodup) rfl (Or.inl rfl)),aD6,(B6 (ixK K) (pv 1) (pv 0) (λ_ _=>rfl))⟩) A4)) (bK4 (pv 3) (B2 L4 (B6 (ixK K) (pv 1) (B2 G0 A7 (pv 4)) (λ_ _=>rfl)) A7) aM6))))
   (B0 (D2 (O1 (A0 (K3 (bY6 K) (by rfl) T.P1 boot_tuple (A0 (pv 2) A4)) (A0 (K3 (bY6 K) (by rfl) T.P1 boot_tuple (A0 (pv 3) A4)) A4))))))))),K1 hS r ?_ q⟩
 have X:=B.N
 have LT:=(TT.E1 B.R m (Aa7 _)).inv.lt
 have LR:=TT.aM8 (TT.E1 B.R m (Aa7 _)).inv
 rw[(TT.E1 B.R m (Aa7 _)).k]at LT LR;generalize hnm:(λv=>y.getD v 0)=nm at B X
 have nms_at:∀{p:Nat},p<m+3->atI (nI y) (p:Int)=some (.int (nm p:Nat)):=λh=>by rw[<- hnm];exact K48.nms_at hnl h
 have hnl':((nI y).length:Int)=(m:Int)+3:=by rw[C8,hnl];lia
 refine B4 (K2 (ds:=List.replicate (m+3) (.tuple [])) ?_ ?_ (show 2<5 by decide))
 .refine EF.to (cW2 (k:=((nI y).length:Int)) (ds:=[.tuple []]) (J8 (A5 (o9 B1) B1)) (O7 (A5 (A1 (d:=lN y) rfl) B1)) rfl (by lia) (by lia) ?_) ?_
  .show 1*((nI y).length:Int).toNat<=_;unfold sizeLine;lia
  .have e:((nI y).length:Int).toNat=m+3:=by lia
   rw[aX8,e]
 refine B4 (K2 (ds:=List.replicate m (.tuple [])) ?_ ?_ (show 3<5 by decide))
 .refine EF.to (cW2 (k:=((nI y).length:Int)-3) (ds:=[.tuple []]) (J8 (A5 (o9 B1) B1)) (L9 (O7 (A5 (A1 (d:=lN y) rfl) B1)) A9) rfl (by lia) (by lia) ?_) ?_
  .show 1*(((nI y).length:Int)-3).toNat<=_;unfold sizeLine;lia
  .have e:(((nI y).length:Int)-3).toNat=m:=by lia
   rw[aX8,e]
 show W K _ (rc (gD F G m) (nI y) (List.replicate (m+3) (.tuple [])) (List.replicate m (.tuple [])) .no) _
 have imr:∀n:Nat,K9 (List.replicate n (PyData.tuple []))=true:=λn=>by
  induction n with
  | zero=>rfl
  | succ n ih=>rw[Bh];simp[K9,ih];rfl
 refine B4 (N2 (Q4 (A5 (O7 (A5 (A1 (d:=lN y) rfl) B1)) B1) ?_ ?_) (λj ρ=>∃x4 L,x4.nb=true/\L.length=m+3/\K9 L=true/\(∀v,v<j->L[nm v]? = some (tN (TT.G4 (((TT.gst F G m).row v).map nm))))/\ρ=rc (gD F G m) (nI y) L (List.replicate m (.tuple [])) x4) ⟨.no,_,rfl,by simp,imr _,λv hv=>by lia,rfl⟩ ?_ ?_)
 .lia
 .lia
 .rintro j d _ hd ⟨x4,L,b4,hL,hiL,hv,rfl⟩;obtain⟨rfl,U⟩:=Q6 hd;have U:j<m+3:=by lia
  refine⟨_,D5,?_⟩;show W K _ (rc (gD F G m) (nI y) L (List.replicate m (.tuple [])) (.val (.int (j:Int)))) _;have cm:=P2 (K:=K) (m:=true) (ρ:=rc (gD F G m) (nI y) L (List.replicate m (.tuple [])) (.val (.int (j:Int)))) (n:=1) (is:=[1]) (g:=V6 0) (tt:=dF4) (te:=tOp (rIx K) (J7 1) (J7 0)) (f3 nm) (U0 (ds:=nI ((TT.gst F G m).row j)) (E4 (E4 (A1 (i:=0) rfl) A9 rfl (M3 0 rfl rfl)) (A1 (i:=4) rfl) rfl (aN9 U))) (by rw[C8];have:=LR j;unfold sizeLine;lia) (λd hd=>by
   obtain⟨p,hp,rfl⟩:=Aa8.mp hd;exact⟨_,D5,bS4,(E4 (d':=.int (nm p:Nat)) (A1 rfl) (A1 rfl) rfl (nms_at (LT j p hp)))⟩)
  rw[dB5]at cm;refine cR3 (nm j) (E6 (A5 (EF.e' cm) B1) ⟨_,?_,?_,rfl,rfl⟩) rfl (E4 (A1 rfl) (A1 rfl) rfl (nms_at U)) rfl ?_ ⟨.val (.int (j:Int)),L.set (nm j) (tN (TT.G4 (((TT.gst F G m).row j).map nm))),rfl,by rw[Dl];exact hL,aY4 (bT9 _) _ hiL,bO4 (n:=0) (by rw[hL];exact X.lt j U) (λv hv e=>by have:=X.inj v j (by lia) U e;lia) hv rfl,rfl⟩ (dM7 rfl)
  .intro e;exact dZ8 (B.R) U (List.map_eq_nil_iff.mp e)
  .rw[Aa3];have:=LR j;lia
  .rw[hL];exact X.lt j U
 rintro _ ⟨x4,L,b4,hL,hiL,hv,rfl⟩;have M:(List.replicate m (PyData.tuple [])).length=m:=Bs;have e3:(P6 0 ((nI y).length:Int).toNat).length=m+3:=by rw[U9];lia
 rw[e3]at hv;refine B4 (N2 (Q4 (A5 (O7 (A5 (K4 rfl) B1)) B1) ?_ ?_) (λj ρ=>∃x4 T,x4.nb=true/\T.length=m/\K9 T=true/\(∀v,v<j->T[nm (v+3)-3]? = some (tN [nm ((TT.gst F G m).o0 (v+3)),nm ((TT.gst F G m).o1 (v+3)),nm ((TT.gst F G m).o2 (v+3))]))/\ρ=rc (gD F G m) (nI y) L T x4) ⟨x4,_,b4,by simp,imr _,λv hv=>by lia,rfl⟩ ?_ ?_)
 .rw[M];lia
 .rw[M];lia
 .rintro j d _ hd ⟨y4,T',c4,hT,hiT,D,rfl⟩;obtain⟨rfl,U⟩:=Q6 hd;have U:j<m:=by rw[M]at U;lia
  refine⟨_,D5,?_⟩;have rI:(TT.gst F G m).row (j+3)=_:=TT.M7 (by lia) (by rw[(TT.E1 (B.R) m (Aa7 _)).k];lia)
  have l0:(TT.gst F G m).o0 (j+3)<m+3:=LT (j+3) _ (by rw[rI];simp)
  have l1:(TT.gst F G m).o1 (j+3)<m+3:=LT (j+3) _ (by rw[rI];simp)
  have l2:(TT.gst F G m).o2 (j+3)<m+3:=LT (j+3) _ (by rw[rI];simp)
  have ge3:3<=nm (j+3):=by
   have:=X.lo (by lia) (q:=j+3) (by lia)
   lia
  have lt3:nm (j+3)<m+3:=X.lt (j+3) (by lia)
  have hat:atI (nI y) (3+(j:Int))=some (.int (nm (j+3):Nat)):=by
   rw[show(3:Int)+(j:Int)=((j+3:Nat):Int) by lia];exact nms_at (by lia)
  show W K _ (rc (gD F G m) (nI y) L T' (.val (.int (j:Int)))) _
  have cm:=P2 (K:=K) (m:=true) (ρ:=rc (gD F G m) (nI y) L T' (.val (.int (j:Int)))) (n:=1) (is:=[1]) (g:=V6 0) (tt:=dF4) (te:=tOp (rIx K) (J7 1) (J7 0)) (f3 nm) (U0 (ds:=nI [(TT.gst F G m).o0 (j+3),(TT.gst F G m).o1 (j+3),(TT.gst F G m).o2 (j+3)]) (E4 (E4 (A1 (i:=0) rfl) A9 rfl (M3 1 rfl rfl)) (A1 (i:=4) rfl) rfl (aN9 U))) (by rw[C8];show 3<_;unfold sizeLine;lia) (λd hd=>by
   obtain⟨p,hp,rfl⟩:=Aa8.mp hd;have hp:p<m+3:=by
    rcases Aa1.mp hp with rfl | hp
    .exact l0
    .rcases Aa1.mp hp with rfl | hp
     .exact l1
     .rw[Ad8.mp hp];exact l2
   exact⟨_,D5,bS4,(E4 (d':=.int (nm p:Nat)) (A1 rfl) (A1 rfl) rfl (nms_at hp))⟩)
  rw[dB5]at cm;refine cR3 (nm (j+3)-3) (e7 (A5 (EF.e' cm) B1) (F5 _)) rfl (L9 (E4 (A1 rfl) (L9 A9 (A1 rfl)) rfl hat) A9) (by lia) ?_ ⟨.val (.int (j:Int)),T'.set (nm (j+3)-3) (tN [nm ((TT.gst F G m).o0 (j+3)),nm ((TT.gst F G m).o1 (j+3)),nm ((TT.gst F G m).o2 (j+3))]),rfl,by rw[Dl];exact hT,aY4 (bT9 _) _ hiT,bO4 (n:=0) (f:=λv=>nm (v+3)-3) (g:=λv=>tN [nm ((TT.gst F G m).o0 (v+3)),nm ((TT.gst F G m).o1 (v+3)),nm ((TT.gst F G m).o2 (v+3))]) (by rw[hT];show nm (j+3)-3<m;lia) (λv hv e=>by
   have e:nm (v+3)-3=nm (j+3)-3:=e
   have g3:=X.lo (by lia) (q:=v+3) (by lia)
   have:=X.inj (v+3) (j+3) (by lia) (by lia) (by lia)
   lia) D rfl,rfl⟩ (dM7 rfl)
  rw[hT];lia
 rintro _ ⟨y4,T',c4,hT,hiT,D,rfl⟩;rw[U9,M,Ac8]at D;refine M8 (o9 (A5 (e7 (A5 (K4 rfl) B1) hiL) (A5 (e7 (A5 (K4 rfl) B1) hiT) B1))) ?_;have eL:L=dr.map tN:=by
  refine List.ext_getElem? λz=>?_
  by_cases hz:z<m+3
  .obtain⟨v,J,rfl⟩:=X.surj z hz;rw[hv v J,Aa9,B.dr v J];rfl
  .rw[Ad6 (by lia),Ad6 (by rw[Aa3,B.dl];lia)]
 have eT:T'=tr.map tN:=by
  refine List.ext_getElem? λz=>?_
  by_cases hz:z<m
  .obtain⟨v,J,hv2⟩:=X.surj (z+3) (by lia)
   have h3:3<=v:=by
    have:=X.lo (by lia) J
    lia
   obtain⟨u,rfl⟩:∃u,v=u+3:=⟨v-3,by lia⟩
   have hzz:z=nm (u+3)-3:=by lia
   rw[hzz,D u (by lia),Aa9,B.tr (u+3) h3 J];rfl
  .rw[Ad6 (by lia),Ad6 (by rw[Aa3,B.tl];lia)]
 rw[eL,eT]
end
theorem dN4 {F G:Nat->Nat}{m:Nat}{f:Nat->Nat}(R:TT.Rws F G m)(N:TT.Nm (m+3) f):∃dr tr,TT.Bt F G m f dr tr:=by
 have r:∀q,∃v,q<m+3->v<m+3/\f v=q:=λq=>by
  by_cases h:q<m+3
  .obtain⟨v,h1,s⟩:=N.surj q h;exact⟨v,λ_=>⟨h1,s⟩⟩
  .exact⟨0,λz=>absurd z h⟩
 have ⟨g,hg⟩:∃g:Nat->Nat,∀q,q<m+3->g q<m+3/\f (g q)=q:=⟨λq=>Classical.choose (r q),λq h=>Classical.choose_spec (r q) h⟩
 have k:∀v,v<m+3->g (f v)=v:=λv y=>N.inj _ _ (hg _ (N.lt v y)).1 y (hg _ (N.lt v y)).2
 refine⟨(List.range (m+3)).map λq=>TT.G4 (((TT.gst F G m).row (g q)).map f),(List.range m).map λq=>[f ((TT.gst F G m).o0 (g (q+3))),f ((TT.gst F G m).o1 (g (q+3))),f ((TT.gst F G m).o2 (g (q+3)))],R,N,by simp,λv y=>?_,by simp,λv Y y=>?_⟩
 .rw[V5 (N.lt v y),k v y]
 .have h:=N.lo (by lia) y
  have X:=N.lt v y
  rw[V5 (by lia)]
  have e:f v-3+3=f v:=by lia
  rw[e,k v y]
def two (a b:List Bool):PyData:=.tuple [.str (sb a),.str (sb b)]
def dP2 (ds:AD)(d:PyData):Prop:=∃(F G:Nat->Nat) (m:Nat) (f:Nat->Nat) (dr tr:AA),m<=7/\TT.Bt F G m f dr tr/\ds=[.tuple (dr.map tN),.tuple (tr.map tN)]/\d=two (TT.D3 F m) (TT.D3 G m)
theorem aX6 (n:Nat)(a:List Bool):FitN n (.str (sb a)):=⟨eB9 a,by simp[PyData.depth]⟩
theorem cB0 (a b:List Bool):Fit (two a b):=(aM4 (n:=0) λd hd=>by
 rcases Aa1.mp hd with rfl | hd
 .exact aX6 0 a
 .rw[Ad8.mp hd];exact aX6 0 b).fit
end K48
namespace L2
open PySem PySem.Spec PyProof.Rows
abbrev qn (κ:Bool):String:=match κ with | true => "list_iterator" | false => "tuple_iterator"
section
variable {prog:Program}{w:World}{A:Around}{E:Dy}{s:Shared}{κ:Bool}
structure ZAp (z TI TO i1 i2 l1 l2:Addr):Prop where
 nd:[z,TI,TO,i1,i2].Nodup
 m1:l1∉[z,TO,i1,i2]
 m2:l2∉[z,TO,i1,i2]
theorem cX8 {l b:Addr}{h h':Heap}{xs:AH}(H:h.IsTuple l xs)(k:∀o,h.get? l=some o->h'.get? l=some o):h'.IsTuple l xs:=by
 obtain⟨o,e,r⟩:=H;exact⟨o,k o e,r⟩
abbrev zT1 (κ:Bool)(h:Heap)(l1:Addr):Heap:=h.push {cls:=.type (qn κ),data:=.fields #[.ref l1,.int 0 0]}
abbrev zT2 (κ:Bool)(h:Heap)(l1 l2:Addr):Heap:=(zT1 κ h l1).push {cls:=.type "tuple_iterator",data:=.fields #[.ref l2,.int 0 0]}
abbrev zT3 (κ:Bool)(h:Heap)(l1 l2:Addr):Heap:=(zT2 κ h l1 l2).push {cls:=.type "tuple",data:=.seq #[.ref h.objs.size,.ref (zT1 κ h l1).objs.size]}
abbrev zT4 (κ:Bool)(h:Heap)(l1 l2:Addr):Heap:=(zT3 κ h l1 l2).push {cls:=.type "tuple",data:=.seq #[.none,.none]}
abbrev zT5 (κ:Bool)(h:Heap)(l1 l2:Addr):Heap:=(zT4 κ h l1 l2).push {cls:=.type "zip",data:=.fields #[.none,.bool false,.bool false,.ref (zT2 κ h l1 l2).objs.size,.ref (zT3 κ h l1 l2).objs.size]}
end
theorem dG4 (n a b:Nat)(g:a<n)(k:b<n):ZAp (n+4) (n+2) (n+3) n (n+1) a b/\a≠n+2/\b≠n+2/\∀c∈[n+4,n+2,n+3,n,n+1],n<=c:=by
 have r:([n+4,n+2,n+3,n,n+1]:AB).Nodup:=by
  simp only[Aa5,Aa1,Ac2,or_false,not_or,not_false_eq_true,List.nodup_nil,and_true]
  lia
 have y:a∉([n+4,n+3,n,n+1]:AB):=by simp only[Aa1,Ac2,or_false,not_or];lia
 have z:b∉([n+4,n+3,n,n+1]:AB):=by simp only[Aa1,Ac2,or_false,not_or];lia
 refine⟨⟨r,y,z⟩,by lia,by lia,λc e=>?_⟩
 simp only[Aa1,Ac2,or_false]at e;lia
end L2
namespace LV
open PySem PySem.Spec PyProof.Rows L2
section
variable {K:Frag}{ρ:List Sl}{m:Bool}{t ta tb:TE}{d d':PyData}{ds es:AD}
def zpD:AD->AD->AD
 | d::ds,e::es=>.tuple [d,e]::zpD ds es
 | _,_=>[]
theorem bJ7:∀{ds es:AD},ds.length=es.length->(zpD ds es).length=ds.length
 | [],[],_=>rfl
 | d::ds,e::es,h=>by simp[zpD,bJ7 (ds:=ds) (es:=es) (by simpa using h)]
theorem aW0:∀{ds es:AD} {i:Nat} {d:PyData},(zpD ds es)[i]? = some d->∃x y,ds[i]? = some x/\es[i]? = some y/\d=.tuple [x,y]
 | [],_,_,_,h=>by simp[zpD]at h
 | _::_,[],_,_,h=>by simp[zpD]at h
 | x::ds,y::es,0,d,h=>⟨x,y,rfl,rfl,by simpa[zpD]using h.symm⟩
 | x::ds,y::es,i+1,d,h=>by
  obtain⟨u,v,h1,h2,h3⟩:=aW0 (ds:=ds) (es:=es) (i:=i) (d:=d) (by simpa[zpD]using h)
  exact⟨u,v,by simpa using h1,by simpa using h2,h3⟩
end
end LV
namespace L2
open PySem PySem.Spec PyProof.Rows
end L2
namespace LV
open PySem PySem.Spec PyProof.Rows L2
end LV
namespace L2
open PySem PySem.Spec PyProof.Rows
def Ies (x:Str):It:=
 ⟨λi _=>i<x.cps.size,λi H v H'=>∃T c,v=.ref T/\H T=none/\H'=upd H T (.tup [.int (i:Int),.str ⟨#[c]⟩])/\x.cps[i]? = some c,λi _=>x.cps.size<=i⟩
theorem bX6 {P:Program}{w:World}{K:Frag}{elts:AL}{k:_}{pos:Pos}(x:Str)(t:Tok)(e it:Addr)(Y:e≠it):bH2 P w K (.Tuple elts k pos) (Ies x) [e,it] e (λi h=>(∃old,IsEnum h e it (i:Int) old)/\h.IsStrIter it "str_ascii_iterator" x t i) where
 mem:=by simp
 obj:=λi h g b hb=>by
  obtain⟨⟨old,J⟩,o,e1,c1,d⟩:=g;rcases Aa1.mp hb with rfl | hb
  .exact⟨_,J,λv z=>by cases z⟩
  .have M:b=it:=by simpa using hb
   subst M;exact⟨o,e1,λv z=>by rw[d]at z;cases z⟩
 keep:=λi h m g k=>⟨⟨g.1.choose,k e (by simp) _ g.1.choose_spec⟩,by obtain⟨o,q,r⟩:=g.2;exact⟨o,k it (by simp) o q,r⟩⟩
 item:=by
  intro X F hw D N i aA s σ H E I R g hg;subst F hw D;obtain⟨⟨old,J⟩,hi⟩:=g;have hg:i<x.cps.size:=hg;refine wpAny_pyNext_enum_itemD (Draws.strAscii (A:=X.A.in1) (I.ok.hd N) it x t) J hi hg Y (by simp[Y]) λy m tk hy ho hst hT hs kp=>?_
  obtain⟨c,u,hcx,rfl⟩:=hy;refine⟨_,rfl,?_⟩;have Te:s.heap.objs.size≠e:=λz=>by have h1:=Ab3 J;rw[z]at h1;exact Ad9 _ h1
  have Ti:s.heap.objs.size≠it:=λz=>by obtain⟨o,ei,_⟩:=hi;have h1:=Ab3 ei;rw[z]at h1;exact Ad9 _ h1
  unfold letOwnedTupleGo;refine Aa (wpAny_load ho ?_);dsimp only;rw[Ae (by simp[rawInt])]
  refine Aa (wpAny_rule ?_);unfold updateField;refine Aa (wpAny_load ho ?_);dsimp only;rw[Ae (by simp)]
  refine wpAny_update ho ?_;have he2:(m.update e (Obj.mapFields λx=>x.setIfInBounds 0 .none)).get? e=some {cls:=.type "enumerate",data:=.fields #[.none,.bool false,.ref it,rawInt ((i:Int)+1),.none,.str ⟨#[c]⟩ u]}:=De (h:=m) (o:={cls:=.type "enumerate",data:=.fields #[rawInt (s.heap.objs.size:Int),.bool false,.ref it,rawInt ((i:Int)+1),.none,.str ⟨#[c]⟩ u]}) (λo=>Obj.mapFields (λx=>x.setIfInBounds 0 .none) o) ho rfl
  have U:∀b o,b≠e->m.get? b=some o->(m.update e (Obj.mapFields λx=>x.setIfInBounds 0 .none)).get? b=some o:=λb o hb q=>by rw[Heap.get?_update_ne _ _ _ _ hb];exact q
  have B:=U s.heap.objs.size _ Te hT
  refine⟨.ref s.heap.objs.size,upd H s.heap.objs.size (.tup [.int (i:Int),.str ⟨#[c]⟩]),?_,rfl,⟨_,c,rfl,I.hok.fresh (Aa7 _),rfl,hcx⟩,⟨⟨_,by rw[show((i+1:Nat):Int)=(i:Int)+1 by lia];exact he2⟩,by obtain⟨o,q,r⟩:=hst;exact⟨o,U it o (Ne.symm Y) q,r⟩⟩,λb hb=>?_⟩
  .refine I.turnedLaid (t':=tk+1) (fp:=[e,it]) (λb o hb q=>U b o (λz=>hb (by simp[z])) (kp b o (λz=>hb (by simp[z])) (λz=>hb (by simp[z])) q)) R (Aa7 _) ?_
   exact⟨by show 2<=sizeLine;decide,[.int (i:Int) tk,.str ⟨#[c]⟩ u],.cons ⟨_,rfl⟩ (.cons ⟨_,rfl⟩ .nil),⟨_,B,rfl,⟨_,rfl⟩,rfl⟩⟩
  .rw[A8]
   .exact(R b hb).1
   .rcases Aa1.mp hb with rfl | hb
    .exact Ne.symm Te
    .have M:b=it:=by simpa using hb
     subst M;exact Ne.symm Ti
 done:=by
  intro X F hw D N i aA s σ H E I R g hg;subst F hw D;obtain⟨⟨old,J⟩,hi⟩:=g;have hg:x.cps.size<=i:=hg;have D0:=Draws.strAscii (prog:=X.prog) (w:=X.w) (A:=X.A.in1) (I.ok.hd N) it x t;have hD:Draws X.prog X.w X.A.in1 it [it] i (λ_ _=>False) (λj h=>j=i/\h.IsStrIter it "str_ascii_iterator" x t i):=⟨λj h g=>D0.live i h g.2,λj h m g k=>⟨g.1,D0.frame i h m g.2 k⟩,λj s Q E hj g _=>absurd g.1 (Ab9 hj),λs Q E g h=>wpAny_nextOf_ascii_end (I.ok.hd N) g.2 (by simp;exact hg) h⟩
  exact wpAny_pyNext_enum_endD hD J ⟨rfl,hi⟩ λm M=>⟨rfl,I.turnedL (t':=s.toks) (λb o hb q=>M b o (λz=>hb (by simp[z])) q) R⟩
 self:=λ_ _ _ _ _ g h=>wpAny_pyIter_enum g.1.choose_spec h
section
variable {X:Cx}{elts:AL}{k:Nat}{ps:Pos}
def bU7 (ta:TA):TI:=λσ H R=>ta σ H λvs H1=>∃x:Str,vs=[.str x]/\x.cps.all (· < 128)=true/\R (Ies x) H1
theorem bP1 {l:Expr}{ta:TA}{p pos:Pos}(hg:Gl X "enumerate")(M:X.mg "enumerate" = none)(J:PA X [l] ta)(N:starEach [l] X.env=[(false,eval l X.env)]:=by rfl):PI X (.Tuple elts k ps) (.Call (.Name "enumerate" p) [l] [] pos) (bU7 ta):=by
 refine⟨?_⟩;intro Y s σ H R I h;refine Call_ (R9 I hg M boot_enumerate (An (thn (J pos Y s σ H _ I h) λP y ⟨vs,m,z,B,F⟩=>?_) N rfl))
 obtain⟨x,e,Q,q⟩:=F;subst e;obtain⟨u,rfl,t,rfl⟩:=V7 B;refine call_enumerate_str λU g hi _ D=>?_
 have r:U.IsStrIter y.heap.objs.size "str_ascii_iterator" x t 0:=by simpa[strIterType,Q]using hi
 refine wpAny_pyIter_enum g ?_;refine⟨y.heap.objs.size+1,[y.heap.objs.size+1,y.heap.objs.size],_,_,m,rfl,z.kept (t':=y.toks) D,bX6 x t _ _ (by simp),⟨⟨_,g⟩,r⟩,λb hb=>?_,q⟩
 rcases Aa1.mp hb with rfl | hb
 .exact z.fpOk (Nat.le_succ _) (z.hok.fresh (Nat.le_succ _))
 .have e:b=y.heap.objs.size:=by simpa using hb
  subst e;exact z.fpOk (Aa7 _) (z.hok.fresh (Aa7 _))
end
end L2
namespace LV
open PySem PySem.Spec PyProof.Rows L2
section
variable {K:Frag}{ρ:List Sl}{m:Bool}{t ta tb:TE}{d d':PyData}{ds es:AD}
theorem dH0 {t:TA}{l:AB}(h:A K m t ρ [.str (tx l)])(U:∀c∈l,c<128):I K m (bU7 t) ρ (enD (sgD l)):=λS B σ H o J R q=>h S B σ H o J _ λvs Y M r=>by
 cases r with
 | cons a b=>
  cases b;cases a
  refine⟨_,rfl,?_,q _ Y M ⟨λi H _ s=>?_,λi H d _ e=>?_,λi H d x N h e y=>?_⟩⟩
  .simpa[tx]using U
  .show(tx l).cps.size<=i
   rw[aF4]at s;simpa[tx,sgD]using s
  .show i<(tx l).cps.size
   have:=(Ab0.mp e).1
   rw[aF4]at this;simpa[tx,sgD]using this
  .obtain⟨z,e',rfl⟩:=aJ4 e;obtain⟨T,c,rfl,k,rfl,g⟩:=y;have g:l[i]? = some c:=by simpa[tx]using g
   unfold sgD at e';rw[Aa9,g]at e';cases e';refine⟨D8 k,λS X=>?_⟩
   exact .tup (SqT.of (hid_some.mpr ⟨λz=>(X T z).2 k,B3⟩)) (.cons (.int _) (.cons (.str _) .nil))
end
end LV
namespace L2
open PySem PySem.Spec PyProof.Rows
abbrev zO (f0 f1:Value)(TI TO:Addr):Obj:={cls:=.type "zip",dict:=none,data:=.fields #[f0,f1,.bool false,.ref TI,.ref TO],slots := #[]}
section
variable {prog:Program}{w:World}{A:Around}{E:Dy}{s:Shared}
theorem bN3 {a:Addr}{Q:Option Obj->Shared->Prop}(h:Q (s.heap.get? a) s):wpAny (model prog w) A (loadIfAlive a) Q E s:=λ Γ p _=>by
 unfold loadIfAlive;rw[Sem.wp_loadIfAlive];exact h
theorem bS9 {z TI TO:Addr}{f0 f1:Value}{Q:Bool->Shared->Prop}(r:s.heap.get? z=some (zO f0 f1 TI TO))(Y:f0=.none\/∃T:Nat,f0=rawInt (T:Int))
  (h:∀b f h',h'.get? z=some (zO f0 f TI TO)->h'.objs.size=s.heap.objs.size->(∀c o,c≠z->s.heap.get? c=some o->h'.get? c=some o)->Q b {s with heap:=h'}):wpAny (model prog w) A (Builtin.SmallTypes.ownedTupleIsFree (.ref z)) Q E s:=by
 unfold Builtin.SmallTypes.ownedTupleIsFree;refine Aa (wpAny_field r rfl (x:=f0) rfl ?_);have g:∀b,Q b s:=λb=>h b f1 s.heap r rfl λ_ _ _ e=>e
 rcases Y with rfl | ⟨T,rfl⟩
 .exact Ab (g _)
 .show wpAny _ _ (loadIfAlive (T:Int).toNat >>= _) _ _ _
  refine Aa (bN3 ?_);by_cases c:(s.heap.get? (T:Int).toNat).isNone=true
  .rw[Ae c];exact Ab (g _)
  .rw[Ac c];refine Aa (wpAny_field r rfl (x:=f1) rfl ?_);by_cases m:(f1 != .bool true)=true
   .rw[Ae m];refine Aa (wpAny_setField_rec r (by simp) λh' k y=>Ab (h _ _ h' k y.1 λc o X e=>y.extBut _ _ X e))
   .rw[Ac m];exact Ab (g _)
theorem cL7 {z TI TO i1 i2 l1 l2:Addr}{k:Nat}{xs ys:AH}{x y a b f0 f1:Value}{Q:Dy}(D:ZAp z TI TO i1 i2 l1 l2)(hz:s.heap.get? z=some (zO f0 f1 TI TO))(h0:f0=.none\/∃T:Nat,f0=rawInt (T:Int))(hTI:IsPair s.heap TI (.ref i1) (.ref i2))(hTO:IsPair s.heap TO a b)
  (h1:s.heap.IsListIter i1 l1 k) (h2:s.heap.IsListIter i2 l2 k) (t1:s.heap.IsList l1 xs) (t2:s.heap.IsList l2 ys) (hx:xs[k]? = some x) (hy:ys[k]? = some y)
  (hQ:∀h' f0' f1',h'.get? z=some (zO f0' f1' TI TO)->(f0'=.none\/∃T:Nat,f0'=rawInt (T:Int))->(∃a b,IsPair h' TO a b)->h'.IsListIter i1 l1 (k+1)->h'.IsListIter i2 l2 (k+1)->IsPair h' s.heap.objs.size x y->h'.objs.size=s.heap.objs.size+1->(∀c o,c∉[z,TO,i1,i2]->s.heap.get? c=some o->h'.get? c=some o)->Q (.ref s.heap.objs.size) {s with heap:=h'}) :
  wpAny (model prog w) A (Builtin.«zip.__next__» ⟨[.ref z],[]⟩) (λfin s'=>∃v,fin=.done (.ret v)/\Q v s') E s:=by
 obtain⟨nd,m1,m2⟩:=D;simp only[Aa5,Aa1,Ac2,or_false,not_or,not_false_eq_true,List.nodup_nil,and_true]at nd m1 m2;obtain⟨⟨n1,n2,n3,n4⟩,⟨n5,n6,n7⟩,⟨n8,n9⟩,X⟩:=nd;obtain⟨p1,p2,p3,p4⟩:=m1;obtain⟨q1,q2,q3,q4⟩:=m2;show wpAny _ _ (field (.ref z) 2 >>= _) _ _ _;refine Aa (wpAny_field hz rfl (x:=.bool false) rfl ?_);show wpAny _ _ (field (.ref z) 3 >>= _) _ _ _;refine Aa (wpAny_field hz rfl (x:=.ref TI) rfl (Aa (wpAny_seqItems hTI rfl ?_)));show wpAny _ _ (Builtin.SmallTypes.ownedTupleIsFree (.ref z) >>= _) _ _ _;refine Aa (bS9 hz h0 λfr f m z0 sz0 k0=>?_)
 have Y:=λc (r:c≠z) o (e:s.heap.get? c=some o)=>k0 c o r e
 have O0:IsPair m TO a b:=k0 TO _ (Ne.symm n2) hTO
 have I1:m.IsListIter i1 l1 k:=h1.at (Y i1 (Ne.symm n3))
 have I2:m.IsListIter i2 l2 k:=h2.at (Y i2 (Ne.symm n4))
 have L1:m.IsList l1 xs:=t1.at (Y l1 p1)
 have L2:m.IsList l2 ys:=t2.at (Y l2 q1)
 cases fr
 .simp only[Ct,if_false];refine Aa ?_;rw[<- Array.forIn_toList];simp only[List.forIn_cons,List.forIn_nil];refine Aa (Aa (Bp ?_));show wpAny _ _ (Builtin.SmallTypes.nextOf (.ref i1) >>= _) _ _ _;refine Aa (wpAny_nextOf_list_item I1 L1 hx λg2 R U=>Ab (Ab ?_))
  refine Aa (Aa (Bp ?_));show wpAny _ _ (Builtin.SmallTypes.nextOf (.ref i2) >>= _) _ _ _;refine Aa (wpAny_nextOf_list_item (I2.at λo e=>U.extBut _ _ (Ne.symm X) e) (L2.at λo e=>U.extBut _ _ q3 e) hy λN F J=>Ab (Ab (Ab ?_)))
  refine Aa (wpAny_newTuple (hsz:=(by decide:(2:Nat)<=sizeLine)) (Ab ⟨_,rfl,?_⟩))
  have sz:N.objs.size=s.heap.objs.size:=by rw[J.1,U.1,sz0]
  have P:∀c o,c≠i1->c≠i2->m.get? c=some o->(N.push {cls:=.type "tuple",data:=.seq #[x,y]}).get? c=some o:=λc o B c2 e=>Aa6 _ (J.extBut _ _ c2 (U.extBut _ _ B e))
  have T4:IsPair (N.push {cls:=.type "tuple",data:=.seq #[x,y]}) N.objs.size x y:=Ac3 _ rfl
  rw[sz]at T4;show Q (.ref N.objs.size) _;rw[sz];refine hQ _ f0 f (P _ _ n3 n4 z0) h0 ⟨a,b,P _ _ n8 n9 O0⟩ ((R.at λo e=>J.extBut _ _ X e).at λo e=>Aa6 _ e) (F.at λo e=>Aa6 _ e) T4 (by rw[Ca,sz]) λc o r e=>?_
  simp only[Aa1,Ac2,or_false,not_or]at r;exact P c o r.2.2.1 r.2.2.2 (k0 c o r.1 e)
 simp only[if_true];refine Aa (wpAny_rule (Aa (wpAny_field z0 rfl (x:=.ref TO) rfl (Aa (wpAny_setField_rec z0 (by simp) λg1 z1 s1=>Aa ?_)))))
 replace z1:g1.get? z=some (zO .ellipsis f TI TO):=z1;simp only[List.zipIdx_cons,List.zipIdx_nil,List.forIn_cons,List.forIn_nil]
 refine Aa (Aa (wpAny_onRaise ?_));show wpAny _ _ (Builtin.SmallTypes.nextOf (.ref i1) >>= _) _ _ _;have k1:=λc (r:c≠z) o (e:m.get? c=some o)=>s1.extBut _ _ r e
 refine Aa (wpAny_nextOf_list_item (I1.at (k1 i1 (Ne.symm n3))) (L1.at (k1 l1 p1)) hx λg2 R U=>Ab ?_)
 have o2:IsPair g2 TO a b:=U.extBut _ _ n8 (k1 TO (Ne.symm n2) _ O0)
 refine Aa (wpAny_seqItems o2 rfl (Aa (wpAny_updateSeq_pair o2 λg3 o3 s3=>Aa (wpAny_letGo (Ab ?_)))));replace o3:IsPair g3 TO x b:=o3
 refine Aa (Aa (wpAny_onRaise ?_));show wpAny _ _ (Builtin.SmallTypes.nextOf (.ref i2) >>= _) _ _ _;have k3:=λc (r:c≠z) (hc2:c≠i1) (hc3:c≠TO) o (e:m.get? c=some o)=>s3.extBut _ _ hc3 (U.extBut _ _ hc2 (k1 c r o e))
 refine Aa (wpAny_nextOf_list_item (I2.at (k3 i2 (Ne.symm n4) (Ne.symm X) (Ne.symm n9))) (L2.at (k3 l2 q1 q3 q2)) hy λN F J=>Ab ?_)
 have o4:IsPair N TO x b:=J.extBut _ _ n9 o3
 refine Aa (wpAny_seqItems o4 rfl (Aa (wpAny_updateSeq_pair o4 λg o5 s5=>Aa (wpAny_letGo (Ab (Ab ?_))))));replace o5:IsPair g TO x y:=o5
 refine Aa (wpAny_seqItems o5 rfl (Aa (wpAny_newTuple ?_)));have sz:g.objs.size=s.heap.objs.size:=by rw[s5.1,J.1,s3.1,U.1,s1.1,sz0]
 have k5:=λc (r:c≠z) (hc2:c≠i1) (hc3:c≠TO) (hc4:c≠i2) o (e:m.get? c=some o)=>s5.extBut _ _ hc3 (J.extBut _ _ hc4 (k3 c r hc2 hc3 o e))
 have z5:g.get? z=some (zO .ellipsis f TI TO):=s5.extBut _ _ n2 (J.extBut _ _ n4 (s3.extBut _ _ n2 (U.extBut _ _ n3 z1)))
 have i1₅:g.IsListIter i1 l1 (k+1):=R.at λo e=>s5.extBut _ _ (Ne.symm n8) (J.extBut _ _ X (s3.extBut _ _ (Ne.symm n8) e))
 have i2₅:g.IsListIter i2 l2 (k+1):=F.at λo e=>s5.extBut _ _ (Ne.symm n9) e
 show wpAny _ _ (Builtin.SmallTypes.ownedTupleHandOut (.ref z) (.ref g.objs.size) >>= _) _ _ _
 refine Aa ?_;unfold Builtin.SmallTypes.ownedTupleHandOut;have z6:(g.push {cls:=.type "tuple",data:=.seq #[x,y]}).get? z=some (zO .ellipsis f TI TO):=Aa6 _ z5;refine Aa (wpAny_setField_rec z6 (by simp) λg7 z7 s7=>?_);replace z7:g7.get? z=some (zO (rawInt g.objs.size) f TI TO):=z7
 refine wpAny_setField_rec z7 (by simp) λg8 z8 s8=>?_;replace z8:g8.get? z=some (zO (rawInt g.objs.size) (.bool false) TI TO):=z8
 have P:∀c o,c≠z->(g.push {cls:=.type "tuple",data:=.seq #[x,y]}).get? c=some o->g8.get? c=some o:=λc o B e=>s8.extBut _ _ B (s7.extBut _ _ B e)
 have M:∀c o,c≠z->g.get? c=some o->g8.get? c=some o:=λc o B e=>P c o B (Aa6 _ e)
 have T8:IsPair g8 g.objs.size x y:=P _ _ (Nat.ne_of_gt (Ab3 z5)) (Ac3 _ rfl)
 rw[sz]at z8 T8;refine Ab ⟨_,rfl,?_⟩;show Q (.ref g.objs.size) _;rw[sz];refine hQ g8 _ _ z8 (.inr ⟨_,rfl⟩) ⟨_,_,M _ _ (Ne.symm n2) o5⟩ (i1₅.at λo e=>M _ o (Ne.symm n3) e) (i2₅.at λo e=>M _ o (Ne.symm n4) e) T8 (by rw[s8.1,s7.1,Ca,sz]) λc o r e=>?_
 simp only[Aa1,Ac2,or_false,not_or]at r;exact M c o r.1 (k5 c r.1 r.2.2.1 r.2.1 r.2.2.2 o (k0 c o r.1 e))
theorem cZ2 {z TI TO i1 i2 l1 l2:Addr}{k:Nat}{xs:AH}{a b f0 f1:Value}{Q:PySem.Fin->Shared->Prop}(hh:A.handled=none)(D:ZAp z TI TO i1 i2 l1 l2)(N:s.heap.get? z=some (zO f0 f1 TI TO))(h0:f0=.none\/∃T:Nat,f0=rawInt (T:Int))(J:IsPair s.heap TI (.ref i1) (.ref i2))(hTO:IsPair s.heap TO a b)
  (h1:s.heap.IsListIter i1 l1 k) (t1:s.heap.IsList l1 xs) (hx:xs[k]? = none)
  (hE:∀h' e,(∀c o,c∉[z,TO,i1,i2]->s.heap.get? c=some o->h'.get? c=some o)->(∃o,h'.get? e=some o/\o.cls=.type "StopIteration")->E (.ref e) {s with heap:=h'}) :
  wpAny (model prog w) A (Builtin.«zip.__next__» ⟨[.ref z],[]⟩) Q E s:=by
 obtain⟨nd,m1,m2⟩:=D;simp only[Aa5,Aa1,Ac2,or_false,not_or,not_false_eq_true,List.nodup_nil,and_true]at nd m1 m2;obtain⟨⟨n1,n2,F,n4⟩,⟨n5,n6,n7⟩,⟨n8,n9⟩,n10⟩:=nd;obtain⟨p1,p2,p3,p4⟩:=m1;show wpAny _ _ (field (.ref z) 2 >>= _) _ _ _;refine Aa (wpAny_field N rfl (x:=.bool false) rfl ?_);show wpAny _ _ (field (.ref z) 3 >>= _) _ _ _;refine Aa (wpAny_field N rfl (x:=.ref TI) rfl (Aa (wpAny_seqItems J rfl ?_)));show wpAny _ _ (Builtin.SmallTypes.ownedTupleIsFree (.ref z) >>= _) _ _ _;refine Aa (bS9 N h0 λfr f X z0 sz0 m=>?_)
 have P:X.IsListIter i1 l1 k:=h1.at λo e=>m i1 o (Ne.symm F) e
 have L1:X.IsList l1 xs:=t1.at λo e=>m l1 o p1 e
 cases fr
 .simp only[Ct,if_false];refine Aa ?_;rw[<- Array.forIn_toList];simp only[List.forIn_cons,List.forIn_nil];refine Aa (Aa (Bp ?_));show wpAny _ _ (Builtin.SmallTypes.nextOf (.ref i1) >>= _) _ _ _;refine Aa (wpAny_nextOf_list_end hh P L1 hx λU e Y M=>hE U e (λc o y x=>?_) M)
  simp only[Aa1,Ac2,or_false,not_or]at y;exact Y _ _ y.2.2.1 (m c o y.1 x)
 simp only[if_true];refine Aa (wpAny_rule (Aa (wpAny_field z0 rfl (x:=.ref TO) rfl (Aa (wpAny_setField_rec z0 (by simp) λg1 B s1=>Aa ?_)))))
 replace B:g1.get? z=some (zO .ellipsis f TI TO):=B;simp only[List.zipIdx_cons,List.zipIdx_nil,List.forIn_cons,List.forIn_nil]
 refine Aa (Aa (wpAny_onRaise ?_));show wpAny _ _ (Builtin.SmallTypes.nextOf (.ref i1) >>= _) _ _ _;have R:=λc (y:c≠z) o (e:X.get? c=some o)=>s1.extBut _ _ y e
 refine Aa (wpAny_nextOf_list_end hh (P.at (R i1 (Ne.symm F))) (L1.at (R l1 p1)) hx λU e Y M=>?_)
 obtain⟨oe,r,g⟩:=M;have z2:U.get? z=some (zO .ellipsis f TI TO):=Y _ _ F B;have ez:e≠z:=λx=>by subst x;rw[z2]at r;cases r;simp at g
 refine wpAny_setField_rec z2 (by simp) λg3 _ s3=>hE g3 e (λc o y x=>?_) ⟨oe,s3.extBut _ _ ez r,g⟩
 simp only[Aa1,Ac2,or_false,not_or]at y;exact s3.extBut _ _ y.1 (Y _ _ y.2.2.1 (R c y.1 o (m c o y.1 x)))
structure ZE (h:Heap)(e z TI TO i1 i2 l1 l2:Addr)(k:Nat):Prop where
 en:∃old,IsEnum h e z (k:Int) old
 zo:∃f0 f1,h.get? z=some (zO f0 f1 TI TO)/\(f0=.none\/∃T:Nat,f0=rawInt (T:Int))
 ti:IsPair h TI (.ref i1) (.ref i2)
 to:∃a b,IsPair h TO a b
 j1:h.IsListIter i1 l1 k
 j2:h.IsListIter i2 l2 k
theorem bX3 {e z TI TO i1 i2 l1 l2:Addr}{k:Nat}{xs ys:AH}{x y:Value}{Q:Option Value->Shared->Prop}(D:ZAp z TI TO i1 i2 l1 l2)(he:e∉[z,TI,TO,i1,i2])(Z:ZE s.heap e z TI TO i1 i2 l1 l2 k)
  (t1:s.heap.IsList l1 xs) (t2:s.heap.IsList l2 ys) (hx:xs[k]? = some x) (hy:ys[k]? = some y)
  (hQ:∀g h' tk,g.objs.size=s.heap.objs.size+1->IsPair g s.heap.objs.size x y->(∀c o,c∉[z,TO,i1,i2]->s.heap.get? c=some o->g.get? c=some o)->(∀c o,c≠e->g.get? c=some o->h'.get? c=some o) ->
   IsEnumOut h' e z ((k:Int)+1) (.ref s.heap.objs.size) (s.heap.objs.size+1)->(∃f0 f1,h'.get? z=some (zO f0 f1 TI TO)/\(f0=.none\/∃T:Nat,f0=rawInt (T:Int)))->IsPair h' TI (.ref i1) (.ref i2)->(∃a b,IsPair h' TO a b)->h'.IsListIter i1 l1 (k+1)->h'.IsListIter i2 l2 (k+1) ->
   IsPair h' (s.heap.objs.size+1) (.int k tk) (.ref s.heap.objs.size)->Q (some (.ref (s.heap.objs.size+1))) {s with heap:=h',toks:=tk+1}) :
  wpAny (model prog w) A (pyNext (.ref e)) Q E s:=by
 obtain⟨⟨r,X⟩,⟨f0,f1,hz,h0⟩,hTI,⟨a,b,hTO⟩,h1,h2⟩:=Z;have nd:=D.nd;simp only[Aa5,Aa1,Ac2,or_false,not_or,not_false_eq_true,List.nodup_nil,and_true]at nd he;obtain⟨⟨n1,n2,n3,n4⟩,⟨n5,n6,n7⟩,⟨n8,n9⟩,n10⟩:=nd;obtain⟨e1,e2,e3,e4,e5⟩:=he;obtain⟨hp,m,d,tk,os⟩:=s;have hT:(⟨hp,m,d,tk,os⟩:Shared).TypeIs (.ref e) "enumerate" := ⟨_,X,rfl⟩;have hTz:(⟨hp,m,d,tk,os⟩:Shared).TypeIs (.ref z) "zip" := ⟨_,hz,rfl⟩;unfold pyNext;refine Aa (wpAny_attempt (Cf (name:=Str.ofString "__next__") hT F.slot_enumerate_next (Cj F.slot_enumerate_next hT F.entry_enumerate_next ?_ (F.args_enumerate_next_1 _))));show wpAny _ _ (field (.ref e) 2 >>= _) _ _ _;refine Aa (wpAny_field X rfl (x:=.ref z) rfl (Aa ?_));unfold Builtin.SmallTypes.nextOf;refine Aa (Cf (name:=Str.ofString "__next__") hTz F.slot_zip_next (Cj F.slot_zip_next hTz F.entry_zip_next (cL7 D hz h0 hTI hTO h1 h2 t1 t2 hx hy λg f0' f1' gz g0 gTO g1 g2 gT gs gk=>Ab ?_) (F.args_zip_next_1 _)))
 have lt:∀{c o},hp.get? c=some o->c≠hp.objs.size:=λq=>Ab9 (Ab3 q)
 have ge:IsEnum g e z k r:=gk e _ (by simp[e1,e3,e4,e5]) X
 have gTI:IsPair g TI (.ref i1) (.ref i2):=gk TI _ (by simp[Ne.symm n1,n5,n6,n7]) hTI
 show wpAny _ _ (field (.ref e) 3 >>= _) _ _ ⟨g,m,d,tk,os⟩
 refine Aa (wpAny_field ge rfl (x:=rawInt k) rfl ?_);show wpAny _ _ (field (.ref e) 4 >>= _) _ _ ⟨g,m,d,tk,os⟩;refine Aa (wpAny_field ge rfl (x:=.none) rfl ?_);show wpAny _ _ (mkInt k >>= _) _ _ ⟨g,m,d,tk,os⟩;refine Aa (wpAny_mkInt ?_);show wpAny _ _ (setField (.ref e) 3 (rawInt ((k:Int)+1)) >>= _) _ _ ⟨g,m,d,tk+1,os⟩;refine Aa (wpAny_setField_rec ge (by simp) λr2 N rs2=>?_)
 replace N:IsEnum r2 e z ((k:Int)+1) r:=N
 replace rs2:Heap.SameBut e g r2:=rs2
 show wpAny _ _ (setField (.ref e) 4 .none >>= _) _ _ ⟨r2,m,d,tk+1,os⟩
 refine Aa (wpAny_setField_rec N (by simp) λM R J=>?_)
 replace R:IsEnum M e z ((k:Int)+1) r:=R
 replace J:Heap.SameBut e r2 M:=J
 show wpAny _ _ (newTuple [.int k tk,.ref hp.objs.size] >>= _) _ _ ⟨M,m,d,tk+1,os⟩
 have sz:M.objs.size=hp.objs.size+1:=by rw[J.1,rs2.1];exact gs
 refine Aa (wpAny_newTuple ?_);rw[sz];have U:IsEnum (M.push {cls:=.type "tuple",data:=.seq #[.int k tk,.ref hp.objs.size]}) e z ((k:Int)+1) r:=Aa6 _ R;have T4:IsPair (M.push {cls:=.type "tuple",data:=.seq #[.int k tk,.ref hp.objs.size]}) (hp.objs.size+1) (.int k tk) (.ref hp.objs.size):=by rw[<- sz];exact Ac3 _ rfl
 have k4:∀c o,c≠e->g.get? c=some o->(M.push {cls:=.type "tuple",data:=.seq #[.int k tk,.ref hp.objs.size]}).get? c=some o:=λc o Y q=>Aa6 _ (J.extBut c o Y (rs2.extBut c o Y q))
 generalize M.push {cls:=.type "tuple",data:=.seq #[.int k tk,.ref hp.objs.size]}=r4 at U T4 k4 ⊢;show wpAny _ _ (Builtin.SmallTypes.ownedTupleIsFree (.ref e) >>= _) _ _ ⟨r4,m,d,tk+1,os⟩;refine Aa ?_;unfold Builtin.SmallTypes.ownedTupleIsFree;refine Aa (wpAny_field U rfl (x:=.none) rfl (Ab ?_));simp only[if_true];refine Aa (wpAny_rule (Aa (wpAny_field U rfl (x:=r) rfl (Aa (wpAny_setField_rec U (by simp) λr5 B rs5=>?_)))))
 replace B:IsEnum r5 e z ((k:Int)+1) (.ref hp.objs.size):=B
 replace rs5:Heap.SameBut e r4 r5:=rs5
 show wpAny _ _ (Builtin.SmallTypes.ownedTupleHandOut (.ref e) (.ref (hp.objs.size+1)) >>= _) _ _ ⟨r5,m,d,tk+1,os⟩
 refine Aa ?_;unfold Builtin.SmallTypes.ownedTupleHandOut;refine Aa (wpAny_setField_rec B (by simp) λr6 P rs6=>?_)
 replace P:IsEnumOut r6 e z ((k:Int)+1) (.ref hp.objs.size) (hp.objs.size+1):=P
 replace rs6:Heap.SameBut e r5 r6:=rs6
 refine wpAny_setField_rec P (by simp) λr7 re7 rs7=>?_
 replace re7:IsEnumOut r7 e z ((k:Int)+1) (.ref hp.objs.size) (hp.objs.size+1):=re7
 replace rs7:Heap.SameBut e r6 r7:=rs7
 have k7:∀c o,c≠e->r4.get? c=some o->r7.get? c=some o:=λc o Y q=>rs7.extBut c o Y (rs6.extBut c o Y (rs5.extBut c o Y q))
 have up:∀c o,c≠e->g.get? c=some o->r7.get? c=some o:=λc o Y q=>k7 c o Y (k4 c o Y q)
 have eT:hp.objs.size+1≠e:=Nat.ne_of_gt (Bw (Ab3 X))
 refine Aa (wpAny_letGo (Ab ⟨_,rfl,?_⟩));refine Ab ?_;exact hQ g r7 tk gs gT gk up re7 ⟨f0',f1',up z _ (Ne.symm e1) gz,g0⟩ (up TI _ (Ne.symm e2) gTI) (by obtain⟨u,v,q⟩:=gTO;exact⟨u,v,up TO _ (Ne.symm e3) q⟩) (g1.at λo q=>up i1 o (Ne.symm e4) q) (g2.at λo q=>up i2 o (Ne.symm e5) q) (k7 _ _ eT T4)
theorem cK2 {e z TI TO i1 i2 l1 l2:Addr}{k:Nat}{xs:AH}{Q:Option Value->Shared->Prop}(R:A.handled=none)(D:ZAp z TI TO i1 i2 l1 l2)(Z:ZE s.heap e z TI TO i1 i2 l1 l2 k)
  (t1:s.heap.IsList l1 xs) (P:xs[k]? = none) (M:∀h',(∀c o,c∉[z,TO,i1,i2]->s.heap.get? c=some o->h'.get? c=some o)->Q none {s with heap:=h'}) :
  wpAny (model prog w) A (pyNext (.ref e)) Q E s:=by
 obtain⟨⟨old,r⟩,⟨f0,f1,U,J⟩,g,⟨a,b,m⟩,h1,h2⟩:=Z;have X:s.TypeIs (.ref e) "enumerate" := ⟨_,r,rfl⟩;have y:s.TypeIs (.ref z) "zip" := ⟨_,U,rfl⟩;unfold pyNext;refine Aa (wpAny_attempt (Cf (name:=Str.ofString "__next__") X F.slot_enumerate_next (Cj F.slot_enumerate_next X F.entry_enumerate_next ?_ (F.args_enumerate_next_1 _))));show wpAny _ _ (field (.ref e) 2 >>= _) _ _ _;refine Aa (wpAny_field r rfl (x:=.ref z) rfl (Aa ?_));unfold Builtin.SmallTypes.nextOf;refine Aa (Cf (name:=Str.ofString "__next__") y F.slot_zip_next (Cj F.slot_zip_next y F.entry_zip_next (cZ2 R D U J g m h1 t1 P λh' x B Y=>?_) (F.args_zip_next_1 _)))
 obtain⟨o,ho,N⟩:=Y;exact Aa (wpAny_isInstance (T := "StopIteration") (b:=true) ⟨o,ho,N⟩ isSubtype_stop (Ab (M _ B)))
end
theorem FpOk.heap {X:Cx}{aA:Dz}{H H':Hp}{b:Addr}(h:FpOk X aA H b)(e:H' b=none):FpOk X aA H' b:=⟨e,h.2⟩
def Iez (K:Frag)(a b:Addr):It:=
 ⟨λi H=>∃xs ys x y,SqL K H a xs/\xs[i]? = some x/\SqL K H b ys/\ys[i]? = some y,λi H v H'=>∃T U x y,v=.ref U/\H T=none/\upd H T (.tup [x,y]) U=none/\H'=upd (upd H T (.tup [x,y])) U (.tup [.int (i:Int),.ref T])/\(∀xs,SqL K H a xs->xs[i]? = some x)/\∀ys,SqL K H b ys->ys[i]? = some y,λi H=>∃xs ys,SqL K H a xs/\SqL K H b ys/\xs.length<=i⟩
theorem dF9 {P:Program}{w:World}{K:Frag}{elts:AL}{k:_}{pos:Pos}(a b e z TI TO i1 i2:Addr)(D:ZAp z TI TO i1 i2 a b)(he:e∉[z,TI,TO,i1,i2]):bH2 P w K (.Tuple elts k pos) (Iez K a b) [e,z,TI,TO,i1,i2] e (λi h=>ZE h e z TI TO i1 i2 a b i) where
 mem:=by simp
 obj:=λi h R c Y=>by
  obtain⟨⟨B,N⟩,⟨f0,f1,F,h0⟩,J,⟨u,v,M⟩,⟨o1,e1,_,d1⟩,⟨o2,e2,_,d2⟩⟩:=R;simp only[Aa1,Ac2,or_false]at Y;rcases Y with rfl | rfl | rfl | rfl | rfl | rfl
  .exact⟨_,N,λv z=>by cases z⟩
  .exact⟨_,F,λv z=>by cases z⟩
  .exact⟨_,J,λv z=>by cases z⟩
  .exact⟨_,M,λv z=>by cases z⟩
  .exact⟨o1,e1,λv z=>by rw[d1]at z;cases z⟩
  .exact⟨o2,e2,λv z=>by rw[d2]at z;cases z⟩
 keep:=λi h h' R k=>by
  obtain⟨⟨B,N⟩,⟨f0,f1,F,h0⟩,J,⟨u,v,M⟩,h1,h2⟩:=R;exact⟨⟨B,k e (by simp) _ N⟩,⟨f0,f1,k z (by simp) _ F,h0⟩,k TI (by simp) _ J,⟨u,v,k TO (by simp) _ M⟩,h1.at λo e=>k i1 (by simp) o e,h2.at λo e=>k i2 (by simp) o e⟩
 item:=by
  intro X hP hw hK Y i aA s σ H E I hf R hg;subst hP hw hK;obtain⟨xs,ys,x,y,hq,hx,Q,hy⟩:=hg;obtain⟨its,rv,p,_⟩:=I.list hq;obtain⟨its',rv',p',_⟩:=I.list Q;obtain⟨x',hu,ru⟩:=rv.get hx;obtain⟨y',hu',ru'⟩:=rv'.get hy;have fr:∀c∈[e,z,TI,TO,i1,i2],c<s.heap.objs.size:=λc Y=>by
   obtain⟨⟨B,N⟩,⟨f0,f1,F,h0⟩,J,⟨u,v,M⟩,⟨o1,e1,_,d1⟩,⟨o2,e2,_,d2⟩⟩:=R;simp only[Aa1,Ac2,or_false]at Y;rcases Y with rfl | rfl | rfl | rfl | rfl | rfl
   .exact Ab3 N
   .exact Ab3 F
   .exact Ab3 J
   .exact Ab3 M
   .exact Ab3 e1
   .exact Ab3 e2
  refine bX3 D he R p.isList p'.isList (x:=x') (y:=y') (by simpa using hu) (by simpa using hu') λg h' tk gs gT gk up re gz gTI gTO g1 g2 T4=>⟨_,rfl,?_⟩
  have hn1:H s.heap.objs.size=none:=I.hok.fresh (Aa7 _)
  have I1:Inv X aA σ (upd H s.heap.objs.size (.tup [x,y])) {s with heap:=g,toks:=s.toks}:=I.turnedLaid (t':=s.toks) (fp:=[e,z,TI,TO,i1,i2]) (λc o Y q=>gk c o (λm=>Y (by simp only[Aa1,Ac2,or_false]at m ⊢;rcases m with m | m | m | m <;> simp[m])) q) hf (Aa7 _) ⟨by show 2<=sizeLine;decide,[x',y'],.cons ru (.cons ru' .nil),⟨_,gT,rfl,⟨_,rfl⟩,rfl⟩⟩
  have hf1:∀c∈[e,z,TI,TO,i1,i2],upd H s.heap.objs.size (.tup [x,y]) c=none:=λc Y=>by
   rw[A8 (Ab9 (fr c Y))];exact(hf c Y).1
  have es:s.heap.objs.size+1≠e:=Nat.ne_of_gt (Bw (fr e (by simp)))
  unfold letOwnedTupleGo;refine Aa (wpAny_load re ?_);dsimp only;rw[Ae (by simp[rawInt])]
  refine Aa (wpAny_rule ?_);show wpAny _ _ (setField (.ref e) 0 .none) _ _ _;refine wpAny_setField_rec re (by simp) λh2 re2 s2=>?_
  replace re2:IsEnum h2 e z ((i:Int)+1) (.ref s.heap.objs.size):=re2
  have U:∀c o,c≠e->h'.get? c=some o->h2.get? c=some o:=λc o Y q=>s2.extBut c o Y q
  simp only[Aa1,Ac2,or_false,not_or]at he;obtain⟨e1,e2,e3,e4,e5⟩:=he;have hn2:upd H s.heap.objs.size (.tup [x,y]) (s.heap.objs.size+1)=none:=I1.hok.fresh (by show g.objs.size<=_;lia)
  refine⟨.ref (s.heap.objs.size+1),upd (upd H s.heap.objs.size (.tup [x,y])) (s.heap.objs.size+1) (.tup [.int (i:Int),.ref s.heap.objs.size]),?_,rfl,⟨_,_,x,y,rfl,hn1,hn2,rfl,λys hy=>by rw[I.list_inj hy hq];exact hx,λzs F=>by rw[I.list_inj F Q];exact hy⟩,⟨⟨_,by rw[show((i+1:Nat):Int)=(i:Int)+1 by lia];exact re2⟩,by obtain⟨f0,f1,q,r⟩:=gz;exact⟨f0,f1,U z _ (Ne.symm e1) q,r⟩,U TI _ (Ne.symm e2) gTI,by obtain⟨u,v,q⟩:=gTO;exact⟨u,v,U TO _ (Ne.symm e3) q⟩,g1.at λo q=>U i1 o (Ne.symm e4) q,g2.at λo q=>U i2 o (Ne.symm e5) q⟩,λc Y=>?_⟩
  .refine I1.turnedLaid (t':=tk+1) (fp:=[e]) (λc o Y q=>U c o (λz=>Y (by simp[z])) (up c o (λz=>Y (by simp[z])) q)) (λc Y=>?_) (by show g.objs.size<=_;lia) ?_
   .have ec:c=e:=by simpa using Y
    subst ec;exact(hf c (by simp)).heap (hf1 c (by simp))
   .exact⟨by show 2<=sizeLine;decide,[.int (i:Int) tk,.ref s.heap.objs.size],.cons ⟨_,rfl⟩ (.cons rfl .nil),⟨_,U _ _ es T4,rfl,⟨_,rfl⟩,rfl⟩⟩
  .rw[A8 (Ab9 (Bw (fr c Y)))];exact hf1 c Y
 done:=by
  intro X hP hw hK Y i aA s σ H E I hf R hg;subst hP hw hK;obtain⟨xs,ys,hq,Q,hx⟩:=hg;obtain⟨its,rv,p,_⟩:=I.list hq;have hl:=rv.length;exact cK2 (I.ok.hd Y) D R p.isList (by simp;lia) λh' kp=>⟨rfl,I.turnedL (t':=s.toks) (λc o Y q=>kp c o (λm=>Y (by simp only[Aa1,Ac2,or_false]at m ⊢;rcases m with m | m | m | m <;> simp[m])) q) hf⟩
 self:=λ_ _ _ _ _ R h=>wpAny_pyIter_enum R.en.choose_spec h
theorem bO8 (z TI TO:Addr)(y:Value):Meets (Builtin.«enumerate.__new__» ⟨[.type "enumerate",.ref z],[]⟩) (λ_ R s=>IsZip s.heap z TI TO y/\R (.ok (.ret (.ref s.heap.objs.size))) {s with heap:=s.heap.push {cls:=.type "enumerate",data:=.fields #[.none,.bool false,.ref z,rawInt 0,.none,.none]}}):=
 .of_wp λm w A R s h=>by
  obtain⟨hp,g,d,tk,os⟩:=s;obtain⟨e,h⟩:=h;have k:=sub_enumerate;have r:IsZip (Shared.heap ⟨hp,g,d,tk,os⟩) z TI TO y:=e
  wp_walk using AutoSeq1.wpAny_loadPart' e
  refine wpAny_stack_any λY=>Ab ?_
  split
  .rename_i c _ _ _ _ _;cases (c==Value.type "enumerate") <;> (wp_walk using AutoSeq1.wpAny_loadPart' e,wpAny_pyIter_zip r;exact⟨_,rfl,h⟩)
  .wp_walk using AutoSeq1.wpAny_loadPart' e,wpAny_pyIter_zip r
   exact⟨_,rfl,h⟩
theorem bY1 {prog:Program}{w:World}{A:Around}{E:Dy}{s:Shared}{z TI TO:Addr}{f0:Value}{Q:Dy}(r:IsZip s.heap z TI TO f0)
  (h:∀h',IsEnum h' s.heap.objs.size z 0 .none->(∀b o,s.heap.get? b=some o->h'.get? b=some o)->Q (.ref s.heap.objs.size) {s with heap:=h'}):wpAny (model prog w) A (call (.type "enumerate") [.ref z]) Q E s:=by
 refine callType_new F.called_enumerate (by decide) (F.typeCall_enumerate_1 _) (F.newCall_enumerate_1 _) (λe=>F.args_object_init_2 e _) F.entry_enumerate_new (bO8 z TI TO f0) ⟨r,?_⟩
 have y:IsEnum (s.heap.push {cls:=.type "enumerate",data:=.fields #[.none,.bool false,.ref z,rawInt 0,.none,.none]}) s.heap.objs.size z 0 .none:=Ac3 _ rfl
 exact⟨⟨_,y,rfl⟩,h _ y λb o x=>Aa6 _ x⟩
section
variable {X:Cx}{elts:AL}{k:Nat}{ps:Pos}
def iEz (K:Frag)(ta:TA):TI:=λσ H R=>ta σ H λvs H1=>∃a b xs ys,vs=[.ref a,.ref b]/\SqL K H1 a xs/\SqL K H1 b ys/\R (Iez K a b) H1
theorem dN6 {l l':Expr}{ta:TA}{p pos p2 pos2:Pos}(K:Frag)(hg:Gl X "zip")(hm:X.mg "zip" = none)(Q:Gl X "enumerate")(F:X.mg "enumerate" = none)(ha:PA X [l,l'] ta)(hK:X.K=K:=by rfl)(hs:starEach [l,l'] X.env=[(false,eval l X.env),(false,eval l' X.env)]:=by rfl)(m:starEach [l'] X.env=[(false,eval l' X.env)]:=by rfl)(Y:starEach [.Call (.Name "zip" p) [l,l'] [] pos] X.env=[(false,eval (.Call (.Name "zip" p) [l,l'] [] pos) X.env)]:=by rfl):PI X (.Tuple elts k ps) (.Call (.Name "enumerate" p2) [.Call (.Name "zip" p) [l,l'] [] pos] [] pos2) (iEz K ta):=by
 subst hK;refine⟨?_⟩;intro aA s σ H R I h;refine Call_ (R9 I Q F boot_enumerate (An ?_ Y rfl));rw[Y];refine Calls.spliced_cons ?_;refine Call_ (R9 I hg hm boot_zip (An (thn (ha pos aA s σ H _ I h) λus z ⟨vs,H1,g,r1,q1⟩=>?_) (by rw[hs,m]) (by rw[m];rfl)))
 obtain⟨a,b,xs,ys,e,hq,B,q⟩:=q1;subst e;cases r1 with
 | cons r rr=>
  cases rr with
  | cons r' rr=>
   cases rr
   cases r
   cases r'
   obtain⟨its,_,pl,_⟩:=g.list hq;obtain⟨its',_,U,_⟩:=g.list B;have la:a<z.heap.objs.size:=by obtain⟨o,e,_⟩:=pl.isList;exact Ab3 e
   have lb:b<z.heap.objs.size:=by obtain⟨o,e,_⟩:=U.isList;exact Ab3 e
   refine call_zip_2 pl.isList U.isList λJ hz M N h1 h2 sz kp=>Calls.spliced_nil ?_
   obtain⟨D,nA,nB,nC⟩:=dG4 _ _ _ la lb;refine bY1 (s:={z with heap:=J}) hz λh2' P y=>wpAny_pyIter_enum P ?_
   have en:(J.objs.size:Nat)∉([z.heap.objs.size+4,z.heap.objs.size+2,z.heap.objs.size+3,z.heap.objs.size,z.heap.objs.size+1]:AB):=by
    rw[sz];simp only[Aa1,Ac2,or_false,not_or];lia
   refine⟨_,_,_,_,H1,rfl,g.kept (t':=z.toks) λb o e=>y b o (kp b o e),dF9 a b _ _ _ _ _ _ D en,⟨⟨_,P⟩,⟨_,_,y _ _ hz,.inl rfl⟩,y _ _ M,⟨_,_,y _ _ N⟩,h1.at λo e=>y _ o e,h2.at λo e=>y _ o e⟩,λc hc=>?_,q⟩
   have:z.heap.objs.size<=c:=by
    rcases Aa1.mp hc with rfl | hc
    .show z.heap.objs.size<=J.objs.size
     rw[sz];exact Nat.le_add_right _ _
    .exact nC c hc
   exact g.fpOk this (g.hok.fresh this)
end
end L2
namespace LV
open PySem PySem.Spec PyProof.Rows L2
section
variable {K:Frag}{ρ:List Sl}{m:Bool}{t ta tb:TE}{d d':PyData}{ds es:AD}
theorem eC4 {Z:Hp}{a b:Addr}{xs ys:List V}(s:SqL K Z a xs)(r:Reps K Z xs ds)(s':SqL K Z b ys)(F:Reps K Z ys es)(hl:ds.length=es.length):Wk K Z (Iez K a b) (enD (zpD ds es)) where
 stop:=λi H h l=>⟨xs,ys,G6 h s,G6 h s',by rw[r.length,<- bJ7 hl];rw[aF4]at l;exact l⟩
 go:=λi H d h e=>by
  obtain⟨z,e,_⟩:=aJ4 e;obtain⟨x,y,Y,X,_⟩:=aW0 e;obtain⟨v,h1,_⟩:=r.get' Y;obtain⟨u,h2,_⟩:=F.get' X;exact⟨xs,ys,v,u,G6 h s,h1,G6 h s',h2⟩
 yld:=λi H d x H' h e y=>by
  obtain⟨z,e',rfl⟩:=aJ4 e;obtain⟨p,q,Y,X,rfl⟩:=aW0 e';obtain⟨T,U,v,u,rfl,Q,k,rfl,y1,y2⟩:=y;obtain⟨d1,N,P⟩:=r.get (y1 xs (G6 h s));obtain⟨d2,f3,f4⟩:=F.get (y2 ys (G6 h s'));rw[Y]at N;cases N;rw[X]at f3;cases f3;have R:=D8 (o:=.tup [v,u]) Q;have g2:=D8 (o:=.tup [.int (i:Int),.ref T]) k;have g:=L2.Same.tr R g2;have M:H U=none:=by
   cases hh:H U with
   | none=>rfl
   | some o=>rw[R U o hh]at k;cases k
  refine⟨g,λS J=>?_⟩
  have D:Same Z (hid S (upd (upd H T (.tup [v,u])) U (.tup [.int (i:Int),.ref T]))):=λb o q=>hid_some.mpr ⟨(λz=>by rw[(J b z).1]at q;cases q),g b o (h b o q)⟩
  have B:T≠U:=λz=>by rw[<- z,B3]at k;cases k
  refine .tup (SqT.of (hid_some.mpr ⟨λz=>(J U z).2 M,B3⟩)) (.cons (.int _) (.cons (.tup (SqT.of (hid_some.mpr ⟨λz=>(J T z).2 Q,by rw[A8 B];exact B3⟩)) (.cons (P.mono D) (.cons (f4.mono D) .nil))) .nil))
theorem eA2 {t:TA}(h:A K m t ρ [.list ds,.list es])(g:ds.length=es.length):I K m (iEz K t) ρ (enD (zpD ds es)):=λS B σ H o J R q=>h S B σ H o J _ λvs y Y r=>by
 cases r with
 | cons a b=>
  cases b with
  | cons z b=>
   cases b
   cases a with
   | lst s r=>
    cases z with
    | lst e k=>exact⟨_,_,_,_,rfl,G6 aH1 s,G6 aH1 e,q _ y Y (eC4 s r e k g)⟩
end
def cS (w:List Bool):AB:=w.map λb=>if b=true then 117 else 100
theorem dN1 (w:List Bool):sb w=tx (cS w):=rfl
theorem eB3 (w:List Bool):∀c∈cS w,c<128:=λc e=>by
 obtain⟨b,_,rfl⟩:=Aa8.mp e;cases b <;> decide
def sgB (w:List Bool):AD:=w.map λb=>PyData.str (sb [b])
theorem dZ1 (w:List Bool):sgD (cS w)=sgB w:=by
 unfold sgD cS sgB;rw[Ae2];exact Ax λb _=>rfl
section
variable {K:Frag}{ρ:List Sl}{m:Bool}{ta tb:TE}{t:TA}
theorem cH0 {w:List Bool}(h:A K m t ρ [.str (sb w)]):I K m (bU7 t) ρ (enD (sgB w)):=by
 rw[<- dZ1];exact dH0 h (eB3 w)
theorem bN6 {i j:Str}(e:E K false ta ρ (.str i))(z:E K false tb ρ (.str j)):E K m (tOp rEq ta tb) ρ (.bool (decide (i=j))):=aP6 false false e z λS H x y Q _ r g q=>by
 cases r;cases g
 refine⟨rfl,?_⟩;rw[show decide (V.str i=V.str j)=decide (i=j) by rw[Di];simp]
 exact q _ H (L2.Same.rf _) (.bl _)
theorem cS6 {z:Str}(e:A K false t ρ [.str z])(y:z.length<=100000):E K m (tCB (λxs H Q=>∃z,xs=[.str z]/\z.length<=sizeLine/\Q (.int z.length) H) t) ρ (.int z.length):=cR4 e λH vs Q r q=>by
 cases r with
 | cons a b=>
  cases a;cases b
  exact⟨z,rfl,by unfold sizeLine;lia,q _ λH=>.int _⟩
theorem eC1 {w:List Bool}{k:Nat}{th:TO}(y:E K false ta ρ (.str (sb w)))(r:O K th ρ (some (k:Int)))(s:w.length<=10000)(g:k<=w.length):E K m (tSl dU3 ta aV3 th) ρ (.str (sb (w.take k))):=by
 have h:=eJ1 (m:=m) (z:=cS w) (a:=0) (b:=k) (tl:=aV3) y y0 r (by simpa[cS]using s) (Cn _) (by simpa[cS]using g) (.inl ⟨rfl,rfl⟩) (.inr rfl)
 have e:(((cS w).drop 0).take (k-0))=cS (w.take k):=by simp[cS,List.map_take]
 rw[e]at h;exact h
end
end LV
namespace L2
open PySem PySem.Spec PyProof.Rows
section
variable {X:Cx}{tg:Expr}
theorem dD0 (K:Frag){l:Expr}{tl:TE}(e:PE X l tl)(h:X.K=K:=by rfl):PI X tg l (dY9 K tl):=h▸aJ5 e
theorem bM7 (K:Frag){T:String}{name:Str}{id:String}{r:V->List V->Hp->VK->Prop}{o e:Expr}{es:AL}{to:TE}{t:TA}{apos cpos:Pos}(pa:PlainAttrs T)(slot:Slot T name id)(s:typeOf (.builtin id)=pure (.type "method_descriptor"))(Y:MtR X id r)(ho:PE X o to)(m:PA X (e::es) t)
  (h:X.K=K:=by rfl) (z:attributeBase o name X.env (eval o X.env)=eval o X.env:=by rfl)
  (k:((backTo cpos (starEach (e::es) X.env)).all (λx => !x.1)&&(backToKw cpos (keywordEach [] X.env)).all (λx=>x.1.isSome)
   && decide ((e::es).length+([]:List Keyword).length+(if([]:List Keyword).isEmpty then 0 else 1)<30))=true:=by rfl)
  (g:(apos.endLine==cpos.line)=true:=by rfl) (U:starEach (e::es) X.env=(false,eval e X.env)::starEach es X.env:=by rfl) (y:(backTo cpos (starEach es X.env)).any (·.1)=false:=by rfl) :
  PE X (.Call (.Attribute o name apos) (e::es) [] cpos) (tBM K T r to t):=h▸J9 pa slot s Y ho m z k g U y
end
end L2
namespace LV
open PySem L2
section
variable {K:Frag}{ρ:List Sl}{m:Bool}{ta tb td:TE}{t:TA}
theorem U1 {x y:Str}(h:x=y):E K m (tC (.str x)) ρ (.str y):=h▸aH4
theorem dM1 {z:AB}{i:Int}{c:Nat}(e:E K false ta ρ (.str (tx z)))(r:E K false tb ρ (.int i))(Y:z.length<=10000)(g:atI z i=some c):E K m (tOp (rIx K) ta tb) ρ (.str (tx [c])):=aP6 false false e r λS H x y Q _ k s q=>by
 cases k;cases s
 exact .inr (.inr ⟨tx z,i,c,rfl,rfl,by rw[aP9];unfold sizeLine;lia,by simpa[tx]using g,q _ H (L2.Same.rf _) (.str _)⟩)
end
open PyProof.Rows
end LV
set_option maxHeartbeats 1000000
namespace K48
open PySem L2 LV PyProof.Rows
theorem sc_fault_in_row:D4 ["row", "ups", "downs", "k", "sign"] ["row"] (C3 Z0):=⟨rfl,rfl,rfl,by decide +kernel,rfl,by decide +kernel,by decide +kernel⟩
theorem aX3:D4 ["row"] ["row"] (C3 l5):=⟨rfl,rfl,rfl,by decide +kernel,rfl,by decide +kernel,by decide +kernel⟩
theorem sc_first_over:D4 ["first", "second", "i", "ahead"] ["first", "second"] (C3 aB9):=⟨rfl,rfl,rfl,by decide +kernel,rfl,by decide +kernel,by decide +kernel⟩
theorem sc_fault_of_rows:D4 ["first", "second", "word", "row", "at", "over"] ["first", "second"] (C3 W5):=⟨rfl,rfl,rfl,by decide +kernel,rfl,by decide +kernel,by decide +kernel⟩
structure Bal (w:List Bool):Prop where
 pre:∀k,(w.take k).count false<=(w.take k).count true
 up:w.count true<=7
 eq:w.count false=w.count true
theorem bM6 {w v:List Bool}(h:∀k,(w.take k).count false<=(w.take k).count true)(e:∀k,w.count false+(v.take k).count false<=w.count true+(v.take k).count true):∀k,((w++v).take k).count false<=((w++v).take k).count true:=λk=>by
 rw[List.take_append,List.count_append,List.count_append];by_cases c:k<=w.length
 .have:k-w.length=0:=by lia
  rw[this];simpa using h k
 .rw[Cr (show w.length<=k by lia)]
  exact e _
theorem bJ6 (n k:Nat):((TT.ds n).take k).count false<=n/\((TT.ds n).take k).count true=0:=by
 unfold TT.ds;rw[List.take_replicate];exact⟨by rw[List.count_replicate_self];lia,by simp[List.count_replicate]⟩
theorem bJ2 {F:Nat->Nat}:∀i,(TT.wrd F i).count true=i
 | 0=>rfl
 | i+1=>by
  show(TT.wrd F i++TT.ds (F i-TT.pv F i)++[true]).count true=_
  rw[List.count_append,List.count_append,bJ2 i]
  have:=(bJ6 (F i-TT.pv F i) (F i-TT.pv F i)).2
  rw[Cr (by simp[TT.ds])]at this
  rw[this];rfl
theorem cE2 {F:Nat->Nat}{m:Nat}(h:∀j,j<m->TT.pv F j<=F j/\F j<=j):∀i,i<=m->∀k,((TT.wrd F i).take k).count false<=((TT.wrd F i).take k).count true
 | 0,_,k=>by simp[TT.wrd]
 | i+1,hi,k=>by
  have e:=cE2 h i (by lia)
  have r:=TT.aK9 (F:=F) i λj g=>(h j (by lia)).1
  have s:=bJ2 (F:=F) i
  have y:=h i (by lia)
  show((TT.wrd F i++TT.ds (F i-TT.pv F i)++[true]).take k).count false<=_
  have h1:=bM6 (v:=TT.ds (F i-TT.pv F i)) e λk=>by
   have:=bJ6 (F i-TT.pv F i) k
   lia
  refine bM6 h1 (λk=>?_) k
  have z:=h1 (TT.wrd F i++TT.ds (F i-TT.pv F i)).length
  rw[Cg]at z;cases k with
  | zero=>simpa using z
  | succ k=>simp at z ⊢;lia
theorem cE3 {F:Nat->Nat}{m:Nat}:(TT.D3 F m).count true=m:=by
 unfold TT.D3;rw[List.count_append,bJ2]
 have:=(bJ6 (m-TT.pv F m) (m-TT.pv F m)).2
 rw[Cr (by simp[TT.ds])]at this
 rw[this];rfl
theorem bR8 {F:Nat->Nat}{m:Nat}(z:m<=7)(h:∀j,j<m->TT.pv F j<=F j/\F j<=j):Bal (TT.D3 F m):=by
 have e:=TT.aK9 (F:=F) m λj y=>(h j y).1
 have r:=bJ2 (F:=F) m
 have hp:TT.pv F m<=m:=by
  cases m with
  | zero=>exact Aa7 _
  | succ m=>exact Nat.le_succ_of_le (h m (by lia)).2
 refine⟨bM6 (cE2 h m (Aa7 _)) λk=>?_,by rw[cE3];exact z,?_⟩
 .have:=bJ6 (m-TT.pv F m) k
  lia
 .rw[cE3];unfold TT.D3;rw[List.count_append,e,TT.bY3]
  lia
def eH4 (ds:AD)(d:PyData):Prop:=∃w:List Bool,w.length<=100/\Bal w/\ds=[.str (sb w)]/\d=.none
def ahd:Nat->List Bool->AB
 | _,[]=>[]
 | n,true::w=>n::ahd n w
 | n,false::w=>ahd (n+1) w
theorem aL6:∀(w v:List Bool) (n:Nat),ahd n (w++v)=ahd n w++ahd (n+w.count false) v
 | [],v,n=>by simp[ahd]
 | true::w,v,n=>by simp[ahd,aL6 w v n]
 | false::w,v,n=>by
  simp only[Ab6,ahd,aL6 w v (n+1),List.count_cons_self];rw[show n+1+w.count false=n+(w.count false+1) by lia]
theorem cX5 (n k:Nat):ahd n (TT.ds k)=[]:=by
 induction k generalizing n with
 | zero=>rfl
 | succ k e=>exact e (n+1)
theorem cF8 {F:Nat->Nat}{m:Nat}(h:∀j,j<m->TT.pv F j<=F j/\F j<=j):∀i,i<=m->ahd 0 (TT.wrd F i)=(List.range i).map F
 | 0,_=>rfl
 | i+1,hi=>by
  have e:=TT.aK9 (F:=F) i λj z=>(h j (by lia)).1
  have y:=h i (by lia)
  show ahd 0 (TT.wrd F i++TT.ds (F i-TT.pv F i)++[true])=_
  rw[aL6,aL6,cF8 h i (by lia),cX5,List.count_append,e,TT.bY3,Bd,Ad2]
  simp only[ahd,Bl,List.map_singleton];rw[show 0+(TT.pv F i+(F i-TT.pv F i))=F i by lia]
theorem bF9 {F:Nat->Nat}{m:Nat}(h:∀j,j<m->TT.pv F j<=F j/\F j<=j):ahd 0 (TT.D3 F m)=(List.range m).map F:=by
 unfold TT.D3;rw[aL6,cF8 h m (Aa7 _),cX5,Bl]
def fAh (w:List Bool):PyData->Option PyData
 | .tuple [.int k,.str s]=>if s=sb [true] then some (.int ((w.take k.toNat).count false:Nat)) else none
 | _=>none
theorem dE4 (w:List Bool):(enD (sgB w)).filterMap (fAh w)=nI (ahd 0 w):=by
 have z:∀(v u:List Bool),w=u++v->((sgB v).mapIdx λi d=>PyData.tuple [.int ((i+u.length:Nat):Int),d]).filterMap (fAh w)=nI (ahd (u.count false) v):=λv=>by
  induction v with
  | nil=>intro u _;rfl
  | cons b v y=>
   intro u e;have y:=y (u++[b]) (by rw[e];simp)
   have r:((sgB (b::v)).mapIdx λi d=>PyData.tuple [.int ((i+u.length:Nat):Int),d])=PyData.tuple [.int ((0+u.length:Nat):Int),.str (sb [b])]::((sgB v).mapIdx λi d=>PyData.tuple [.int ((i+(u++[b]).length:Nat):Int),d]):=by
    show List.mapIdx _ (PyData.str (sb [b])::sgB v)=_
    rw[List.mapIdx_cons]
    congr 1
    refine congrArg (λf=>List.mapIdx f (sgB v)) ?_
    funext i d
    simp only[Ab7,List.length_singleton];rw[show i+1+u.length=i+(u.length+1) by lia]
   rw[r,Ak];have g:w.take ((0+u.length:Nat):Int).toNat=u:=by rw[e,show((0+u.length:Nat):Int).toNat=u.length by lia];simp
   cases b
   .have:fAh w (.tuple [.int ((0+u.length:Nat):Int),.str (sb [false])])=none:=by
     show(if sb [false]=sb [true] then some (PyData.int ((w.take ((0+u.length:Nat):Int).toNat).count false:Nat)) else none)=none
     exact Ac (by decide)
    rw[this,y]
    simp[ahd,List.count_append]
   .have:fAh w (.tuple [.int ((0+u.length:Nat):Int),.str (sb [true])])=some (.int (u.count false:Nat)):=by
     show(if sb [true]=sb [true] then some (PyData.int ((w.take ((0+u.length:Nat):Int).toNat).count false:Nat)) else none)=_
     rw[Ae rfl,g]
    rw[this,y]
    simp[ahd,List.count_append,nI]
 have:=z w [] rfl
 simpa[enD]using this
def eI3 (ds es:AD):Prop:=∃w:List Bool,w.length<=100/\ds=[.str (sb w)]/\es=nI (ahd 0 w)
def dP0 (ds:AD)(d:PyData):Prop:=∃(F G:Nat->Nat) (m:Nat),m<=7/\TT.Rws F G m/\ds=[.str (sb (TT.D3 F m)),.str (sb (TT.D3 G m))]/\d=.none
section
variable {P:Program}{w:World}{K:Frag}{mg:Str->Option Value}{base:Heap}{a:Ad}
theorem eE6 (T:Tx K mg a):FnOk P w K mg base CX0 1 a.Y7 a.Z9 ["row"] (spV K eH4):=by
 refine T.aE6.ok sc_fault_in_row (T5 λds d ⟨_,_,_,e,_⟩=>by rw[e];rfl) (λD A X s H vs Q E hr h=>?_)
 obtain⟨ds,S,d,hS,r,⟨w,hw,B,rfl,rfl⟩,q⟩:=h;obtain⟨tM,gM⟩:=T.aK3;refine⟨_,(A6 (C0 (i:=1) sc_fault_in_row.nd rfl (Or.inl rfl) A7)
   (A6 (C0 (i:=2) sc_fault_in_row.nd rfl (Or.inl rfl) A7)
   (A6 (G5 Aj rfl (bP1 rfl T.Q9 (A0 (pv 0) A4)) (aR5 (n:=2) rfl (O2 (C5 (i:=3) sc_fault_in_row.nd rfl (Or.inl rfl)) (O2 (C5 (i:=4) sc_fault_in_row.nd rfl (Or.inl rfl)) aF7))) (A6 (bJ1 (i:=1) sc_fault_in_row.nd rfl (Or.inl rfl) (K3 bF2 (by rfl) T.bS5 boot_int (A0 (aF1 i5 (pv 4) E7 (C7 _)) A4)) cV3)
   (A6 (bJ1 (i:=2) sc_fault_in_row.nd rfl (Or.inl rfl) (K3 bF2 (by rfl) T.bS5 boot_int (A0 (aF1 i5 (pv 4) E7 (C7 _)) A4)) cV3)
   (B0 (N5 (PW.pt (T2 (B9 (aO7 K hr) (pv 4) (O1 (A0 E7 (A0 E7 A4))) rfl) (T2 (B9 t5 (pv 1) (M6 (v:=.int 7) rfl gM ⟨tM,rfl⟩) (C7 _)) (v5 (B9 t5 (pv 2) (pv 1) (C7 _)))))) (B0 (D2 (pv 3))) H9)))))
   (B0 (D2 (aK5 (B9 aH2 (pv 2) (pv 1) (C7 _)) (B8 X2 (by rfl) T.F9 Ah (A0 (pv 0) A4)) aB8)))))),K1 hS r ?_ q⟩
 refine B4 (F8 (d:=.int 0) A9 ?_);refine B4 (F8 (d:=.int 0) A9 ?_);refine B4 (N2 (cH0 (w:=w) (A5 (A1 rfl) B1)) (λj ρ=>∃g k,g.nb=true/\k.nb=true/\ρ=[.val (.str (sb w)),.val (.int ((w.take j).count true:Nat)),.val (.int ((w.take j).count false:Nat)),g,k]) ⟨.no,.no,rfl,rfl,rfl⟩ ?_ ?_)
 .rintro j d _ hj ⟨g,k,M,N,rfl⟩;obtain⟨y,m,rfl⟩:=aJ4 hj;unfold sgB at m;rw[Aa9]at m;obtain⟨b,J,rfl⟩:=Bn.mp m;have hjl:j<w.length:=(Ab0.mp J).1;have U:w.take (j+1)=w.take j++[b]:=by rw[Dj,J];rfl
  have pr:=B.pre (j+1)
  have up:(w.take (j+1)).count true<=7:=Bf (List.Sublist.count_le _ (List.take_sublist _ _)) B.up
  refine⟨_,bD3 (Q2 D5 (Q2 D5 aP7)),?_⟩;have iu:((w.take j).count true:Nat)+(if decide (sb [b]=Str.ofString "u")=true then(1:Int) else 0)=((w.take (j+1)).count true:Nat):=by
   rw[U,List.count_append];cases b
   .rw[show decide (sb [false]=Str.ofString "u")=false by decide];simp
   .rw[show decide (sb [true]=Str.ofString "u")=true by decide];simp
  have Y:((w.take j).count false:Nat)+(if decide (sb [b]=Str.ofString "d")=true then(1:Int) else 0)=((w.take (j+1)).count false:Nat):=by
   rw[U,List.count_append];cases b
   .rw[show decide (sb [false]=Str.ofString "d")=true by decide];simp
   .rw[show decide (sb [true]=Str.ofString "d")=false by decide];simp
  refine B4 (cQ3 (x:=((w.take j).count true:Nat)) rfl (cQ1 (A5 (bN6 (i:=sb [b]) (A1 rfl) aH4) B1)) ?_);rw[iu];refine B4 (cQ3 (x:=((w.take j).count false:Nat)) rfl (cQ1 (A5 (bN6 (i:=sb [b]) (A1 rfl) aH4) B1)) ?_);rw[Y];have fb:Fit (.str (sb [b])):=(aX6 1 [b]).fit;have ft:Fit (.tuple [.str (Str.ofString "u"),.str (Str.ofString "d")]):=cB0 [true] [false];refine V4 (aD0 (D1 (aY6 (d:=.str (sb [b])) (A1 rfl) (o9 (A5 aH4 (A5 aH4 B1))) rfl fb ft)) λ_=>aD0 (D1 (U7 (A1 rfl) A9)) λ_=>D1 (U7 (A1 rfl) (A1 rfl))) (λh=>?_) (λh=>M2 ⟨_,_,rfl,rfl,rfl⟩)
  exfalso
  have R:(!([PyData.str (Str.ofString "u"),PyData.str (Str.ofString "d")].any λz=>PyData.eqv z (.str (sb [b]))))=false:=by cases b <;> simp[PyData.eqv] <;> decide
  rw[R,Bool.false_or]at h;rcases Bool.or_eq_true_iff.mp h with h | h
  .have:=Am h;lia
  .have:=Am h;lia
 rintro _ ⟨g,k,M,N,rfl⟩;have F:(enD (sgB w)).length=w.length:=by rw[aF4];simp[sgB]
 rw[F,Cg];exact M8 (dF3 (D1 (U7 (A1 rfl) (A1 rfl))) (λh=>by have:=Am h;have:=B.eq;lia) (λ_=>bD0)) rfl
theorem dM4 (T:Tx K mg a):FnOk P w K mg base CX0 1 a.l7 a.i6 ["row"] (spL K eI3):=by
 refine T.P9.ok aX3 (cJ4 λds d ⟨_,_,e,_⟩=>by rw[e];rfl) (λk A g s H vs Q E R h=>?_)
 obtain⟨ds,S,N,Y,r,⟨w,D,rfl,rfl⟩,q⟩:=h;refine⟨_,(B0 (D2 (X1 (T:=["k", "sign"]) (N':=["k", "sign", "row"]) (is:=[0]) rfl (.of rfl rfl rfl (by exact⟨rfl,trivial⟩) rfl rfl rfl (by exact⟨⟨_,rfl,by first | exact .inl rfl | exact .inr rfl,by first | exact .inl rfl | exact .inr rfl⟩,trivial⟩)) (bP1 rfl T.Q9 (A0 (pv 0) A4)) (eL7 (by decide) (by decide)) λ_ _ _ _=>⟨(aR5 (n:=2) rfl (O2 (C5 (i:=0) (by decide +kernel:(["k", "sign", "row"]:AG).Nodup) rfl (Or.inl rfl)) (O2 (C5 (i:=1) (by decide +kernel:(["k", "sign", "row"]:AG).Nodup) rfl (Or.inl rfl)) aF7))),(V9 (B9 i5 (pv 1) E7 (C7 _))),(bM7 K PySem.F.plainAttrs_str PySem.F.slot_str_count PySem.F.type_str_count R4 (S0 dZ6 (pv 2) X0 (X5 (pv 0))) (A0 E7 A4))⟩))),aP0 Y r ?_ q⟩
 rw[<- dE4];refine aO8 (P2 (m:=true) (fAh w) (cH0 (w:=w) (A5 (A1 rfl) B1)) (by rw[aF4];simp[sgB];unfold sizeLine;lia) λd U=>?_) rfl
 obtain⟨j,J⟩:=List.mem_iff_getElem?.mp U;obtain⟨y,z,rfl⟩:=aJ4 J;unfold sgB at z;rw[Aa9]at z;obtain⟨b,X,rfl⟩:=Bn.mp z;have M:j<w.length:=(Ab0.mp X).1;refine⟨_,bD3 (Q2 D5 (Q2 D5 aP7)),?_⟩;cases b
 .rw[show fAh w (.tuple [.int (j:Int),.str (sb [false])])=none from by
   show(if sb [false]=sb [true] then some (PyData.int ((w.take ((j:Int)).toNat).count false:Nat)) else none)=none
   exact Ac (by decide)]
  have e:=bN6 (K:=K) (m:=false) (ρ:=[.val (.int (j:Int)),.val (.str (sb [false])),cap (.val (.str (sb w)))]) (ta:=J7 1) (i:=sb [false]) (j:=Str.ofString "u") (A1 rfl) aH4
  rw[show decide (sb [false]=Str.ofString "u")=false by decide]at e
  exact D1 e
 .rw[show fAh w (.tuple [.int (j:Int),.str (sb [true])])=some (.int ((w.take j).count false:Nat)) from by
   show(if sb [true]=sb [true] then some (PyData.int ((w.take ((j:Int)).toNat).count false:Nat)) else none)=_
   rw[Ae rfl,Ac8]]
  have e:=bN6 (K:=K) (m:=false) (ρ:=[.val (.int (j:Int)),.val (.str (sb [true])),cap (.val (.str (sb w)))]) (ta:=J7 1) (i:=sb [true]) (j:=Str.ofString "u") (A1 rfl) aH4
  rw[show decide (sb [true]=Str.ofString "u")=true by decide]at e
  exact⟨D1 e,cY5 (eC1 (w:=w) (A1 rfl) (aC0 (A1 rfl)) (by lia) (by lia)) (bA8 [false] rfl)⟩
theorem eG6 (T:Tx K mg a):FnOk P w K mg base CX0 2 a.X4 a.X6 ["first", "second"] (spV K dP0):=by
 have z:FnOk P w K mg base CX0 1 _ _ _ _:=dM4 T
 refine T.X7.ok sc_first_over (T5 λds d ⟨_,_,_,_,_,e,_⟩=>by rw[e];rfl) (λcdv A M s H vs Q E D h=>?_)
 obtain⟨ds,S,d,hS,r,⟨F,G,m,hm,R,rfl,rfl⟩,q⟩:=h;refine⟨_,(A6 (G5 Aj rfl (dN6 K rfl T.cD3 rfl T.Q9 (A0 (C6 z (D.mono (by decide)) rfl T.V2 T.P9.kp T.V1 .nil E2 (A0 (pv 0) A4)) (A0 (C6 z (D.mono (by decide)) rfl T.V2 T.P9.kp T.V1 .nil E2 (A0 (pv 1) A4)) A4))) (aR5 (n:=2) rfl (O2 (C5 (i:=2) sc_first_over.nd rfl (Or.inl rfl)) (O2 (C5 (i:=3) sc_first_over.nd rfl (Or.inl rfl)) aF7))) (B0 (N5 (B9 t5 (B6 (ixK K) (pv 3) A7 (λ_ _=>rfl)) (B6 (ixK K) (pv 3) A7 (λ_ _=>rfl)) (C7 _)) (B0 (D2 (pv 2))) H9)))
   (B0 (D2 aB8))),K1 hS r ?_ q⟩
 have hF:∀j,j<m->TT.pv F j<=F j/\F j<=j:=λj g=>⟨R.f1 j g,R.f2 j g⟩
 have N:∀j,j<m->TT.pv G j<=G j/\G j<=j:=λj g=>⟨R.g1 j g,Bf (R.g2 j g) (R.f2 j g)⟩
 have lF:(TT.D3 F m).length<=100:=by
  rw[TT.Y6 R.f1 (by cases m with | zero=>exact Aa7 _ | succ m=>exact Nat.le_succ_of_le (R.f2 m (by lia)))];lia
 have lG:(TT.D3 G m).length<=100:=by
  rw[TT.Y6 R.g1 (by cases m with | zero=>exact Aa7 _ | succ m=>exact Nat.le_succ_of_le (N m (by lia)).2)];lia
 refine B4 (N2 (eA2 (ds:=nI ((List.range m).map F)) (es:=nI ((List.range m).map G)) (A5 (EF.e' (S4 (A5 (A1 rfl) B1) ⟨TT.D3 F m,lF,rfl,by rw[bF9 hF]⟩)) (A5 (EF.e' (S4 (A5 (A1 rfl) B1) ⟨TT.D3 G m,lG,rfl,by rw[bF9 N]⟩)) B1)) (by simp[nI])) (λj ρ=>∃X U,X.nb=true/\U.nb=true/\ρ=[.val (.str (sb (TT.D3 F m))),.val (.str (sb (TT.D3 G m))),X,U]) ⟨.no,.no,rfl,rfl,rfl⟩ ?_ ?_)
 .rintro j d _ g ⟨X,U,B,b3,rfl⟩;obtain⟨y,hy,rfl⟩:=aJ4 g;obtain⟨p,q',Y,J,rfl⟩:=aW0 hy;have k:j<m:=by
   have:=(Ab0.mp Y).1
   simpa[nI]using this
  have ep:p=.int (F j:Nat):=by
   unfold nI at Y;rw[Aa9,Aa9,List.getElem?_range k]at Y;exact(Ab4 Y).symm
  have eq:q'=.int (G j:Nat):=by
   unfold nI at J;rw[Aa9,Aa9,List.getElem?_range k]at J;exact(Ab4 J).symm
  subst ep eq
  have:=R.g2 j k
  refine⟨_,bD3 (Q2 D5 (Q2 D5 aP7)),?_⟩;refine V4 (D1 (U7 (E4 (ds:=[.int (F j:Nat),.int (G j:Nat)]) (A1 rfl) A9 rfl rfl) (E4 (ds:=[.int (F j:Nat),.int (G j:Nat)]) (A1 rfl) A9 rfl rfl))) (λh=>?_) (λh=>M2 ⟨_,_,rfl,rfl,rfl⟩)
  exfalso
  have:=Am h
  lia
 rintro _ ⟨X,U,B,b3,rfl⟩;exact M8 bD0 rfl
theorem eC7 (T:Tx K mg a):FnOk P w K mg base CX0 3 a.W4 a.W8 ["first", "second"] (spV K dP0):=by
 have y:FnOk P w K mg base CX0 1 _ _ _ _:=eE6 T
 have z:FnOk P w K mg base CX0 2 _ _ _ _:=eG6 T
 refine T.aC6.ok sc_fault_of_rows (T5 λds d ⟨_,_,_,_,_,e,_⟩=>by rw[e];rfl) (λcdv A J s H vs Q E N h=>?_)
 obtain⟨ds,S,d,hS,r,⟨F,G,m,U,R,rfl,rfl⟩,q⟩:=h;refine⟨_,(A6 (G5 Aj rfl (dD0 K (O1 (A0 (O1 (A0 E7 (A0 (pv 0) A4))) (A0 (O1 (A0 E7 (A0 (pv 1) A4))) A4)))) (aR5 (n:=2) rfl (O2 (C5 (i:=2) sc_fault_of_rows.nd rfl (Or.inl rfl)) (O2 (C5 (i:=3) sc_fault_of_rows.nd rfl (Or.inl rfl)) aF7))) (A6 (C0 (i:=4) sc_fault_of_rows.nd rfl (Or.inl rfl) (C6 y (N.mono (by decide)) rfl T.bA4 T.aE6.kp T.aV9 .nil E2 (A0 (pv 3) A4)))
   (B0 (N5 (B9 cA7 (pv 4) aB8 (C7 _)) (B0 (D2 (O1 (A0 (pv 2) (A0 (pv 4) A4))))) H9))))
   (A6 (N5 (B9 aH0 (B8 X2 (by rfl) T.F9 Ah (A0 (pv 1) A4)) (B8 X2 (by rfl) T.F9 Ah (A0 (pv 0) A4)) (C7 _)) aQ3 H9)
   (A6 (C0 (i:=5) sc_fault_of_rows.nd rfl (Or.inl rfl) (C6 z (N.mono (by decide)) rfl T.aM2 T.X7.kp T.aM0 .nil E2 (A0 (pv 0) (A0 (pv 1) A4))))
   (B0 (D2 (aK5 (B9 cV1 (pv 5) aB8 (C7 _)) aB8 (O1 (A0 E7 (A0 (pv 5) A4))))))))),K1 hS r ?_ q⟩
 have hF:∀j,j<m->TT.pv F j<=F j/\F j<=j:=λj g=>⟨R.f1 j g,R.f2 j g⟩
 have M:∀j,j<m->TT.pv G j<=G j/\G j<=j:=λj g=>⟨R.g1 j g,Bf (R.g2 j g) (R.f2 j g)⟩
 have lF:(TT.D3 F m).length=2*m:=TT.Y6 R.f1 (by cases m with | zero=>exact Aa7 _ | succ m=>exact Nat.le_succ_of_le (R.f2 m (by lia)))
 have lG:(TT.D3 G m).length=2*m:=TT.Y6 R.g1 (by cases m with | zero=>exact Aa7 _ | succ m=>exact Nat.le_succ_of_le (M m (by lia)).2)
 have bF:=bR8 U hF
 have bG:=bR8 U M
 refine B4 (N2 (aW6 (ds:=[.tuple [.str (Str.ofString "first"),.str (sb (TT.D3 F m))],.tuple [.str (Str.ofString "second"),.str (sb (TT.D3 G m))]]) (o9 (A5 (o9 (A5 aH4 (A5 (A1 rfl) B1))) (A5 (o9 (A5 aH4 (A5 (A1 rfl) B1))) B1)))) (λj ρ=>∃k Y X,k.nb=true/\Y.nb=true/\X.nb=true/\ρ=[.val (.str (sb (TT.D3 F m))),.val (.str (sb (TT.D3 G m))),k,Y,X,.no]) ⟨.no,.no,.no,rfl,rfl,rfl,rfl⟩ ?_ ?_)
 .rintro j d _ g ⟨k,Y,X,B,b3,b4,rfl⟩;obtain⟨D,u,hu,hb,rfl⟩:∃(D:Str) (u:List Bool),u.length<=100/\Bal u/\d=.tuple [.str D,.str (sb u)]:=by
   match j,g with
   | 0,g=>exact⟨_,TT.D3 F m,by lia,bF,(Ab4 g).symm⟩
   | 1,g=>exact⟨_,TT.D3 G m,by lia,bG,(Ab4 g).symm⟩
   | n+2,g=>simp at g
  refine⟨_,bD3 (Q2 D5 (Q2 D5 aP7)),?_⟩;refine B4 (F8 (d:=.none) (E6 (A5 (A1 rfl) B1) ⟨u,hu,hb,rfl,rfl⟩) ?_);exact V4 (D1 (cX4 (d:=.none) (A1 rfl))) (λh=>absurd (show false=true from h) (by decide)) (λ_=>M2 ⟨_,_,_,rfl,rfl,rfl,rfl⟩)
 rintro _ ⟨k,Y,X,B,b3,b4,rfl⟩;refine B4 (V4 (D1 (aH6 (cS6 (A5 (A1 rfl) B1) (by rw[U5];lia)) (cS6 (A5 (A1 rfl) B1) (by rw[U5];lia)))) (λh=>absurd h (by rw[U5,U5,lF,lG];simp)) (λ_=>M2 ?_))
 refine B4 (F8 (d:=.none) (E6 (A5 (A1 rfl) (A5 (A1 rfl) B1)) ⟨F,G,m,U,R,rfl,rfl⟩) ?_);exact M8 (dF3 (D1 (cY7 (d:=.none) (A1 rfl))) (λ_=>bD0) (λh=>absurd (show true=false from h) (by decide))) rfl
end
theorem sc_begun_with:D4 ["ring", "first", "at"] ["ring", "first"] (C3 aA1):=⟨rfl,rfl,rfl,by decide +kernel,rfl,by decide +kernel,by decide +kernel⟩
theorem sc_children:D4 ["drawing", "outs", "place", "colour", "following", "first", "around"] ["drawing", "outs", "place", "colour"] (C3 aI6):=⟨rfl,rfl,rfl,by decide +kernel,rfl,by decide +kernel,by decide +kernel⟩
theorem bC6 (l:AB):tN l=tI (l.map λ(x:Nat)=>(x:Int)):=by unfold tN tI nI;simp
theorem aT8 (l:AB)(k:Nat):(nI l).drop k=nI (l.drop k):=by simp[nI]
theorem bZ7 (l:AB)(k:Nat):(nI l).take k=nI (l.take k):=by simp[nI]
def eJ2 (ds:AD)(d:PyData):Prop:=∃(l:AB) (x:Nat),x∈l/\l.length<=10000/\ds=[tN l,.int (x:Int)]/\d=tN (l.drop (l.idxOf x)++l.take (l.idxOf x))
def ch (dr tr:AA)(c p:Nat):AB:=if 3<=p\/p=c then TT.chd dr tr c p else []
structure Dw (m:Nat)(dr tr:AA):Prop where
 m7:m<=7
 bt:∃F G f,TT.Bt F G m f dr tr
def eB7 (ds es:AD):Prop:=∃(m:Nat) (dr tr:AA) (p c:Nat),Dw m dr tr/\p<m+3/\c<3/\ds=[.tuple (dr.map tN),.tuple (tr.map tN),.int (p:Int),.int (c:Int)]/\es=nI (ch dr tr c p)
theorem ndq:(["q", "outs", "colour", "place"]:AG).Nodup:=by decide +kernel
def fch (tr:AA)(c p:Nat):PyData->Option PyData
 | .int q=>if TT.s9 tr c p q.toNat then some (.int q) else none
 | _=>none
theorem dE3 (tr:AA)(c p:Nat)(l:AB):(nI l).filterMap (fch tr c p)=nI (l.filter (TT.s9 tr c p)):=by
 unfold nI;induction l with
 | nil=>rfl
 | cons x l y=>
  rw[Ac7,Ak,List.filter_cons,y];have e:fch tr c p (.int (x:Int))=if TT.s9 tr c p x then some (.int (x:Int)) else none:=by simp[fch]
  rw[e];cases TT.s9 tr c p x <;> simp
section
variable {F G:Nat->Nat}{m:Nat}{f:Nat->Nat}{d t:AA}
theorem eB0 (B:TT.Bt F G m f d t){p:Nat}(hp:p<m+3):d[p]? = some (TT.trn d p):=by
 have e:p<d.length:=by rw[B.dl];exact hp
 unfold TT.trn;rw[Aa2 e];rfl
theorem cA4 (B:TT.Bt F G m f d t){p:Nat}(hp:p<m+3):∀x∈TT.trn d p,x<m+3:=λx e=>B.good.lt p x e
theorem eG5 (B:TT.Bt F G m f d t){p:Nat}(hp:p<m+3):(TT.trn d p).Nodup:=B.good.nd p
theorem cO8 (B:TT.Bt F G m f d t){p:Nat}(hp:p<m+3):(TT.trn d p).length<=m+3:=TT.aZ9 (eG5 B hp) (cA4 B hp)
end
section
variable {P:Program}{w:World}{K:Frag}{mg:Str->Option Value}{base:Heap}{a:Ad}
theorem aG8 (T:Tx K mg a):FnOk P w K mg base CX0 1 a.v9 a.u6 ["ring", "first"] (spV K eJ2):=by
 refine T.y9.ok sc_begun_with (T5 λds d ⟨_,_,_,_,e,_⟩=>by rw[e];rfl) (λX A y s H vs Q E M h=>?_)
 obtain⟨ds,S,d,U,r,⟨l,x,Y,J,rfl,rfl⟩,q⟩:=h;refine⟨_,(A6 (C0 (i:=2) sc_begun_with.nd rfl (Or.inl rfl) (J9 PySem.F.plainAttrs_tuple PySem.F.slot_tuple_index PySem.F.type_tuple_index (m9 K) (pv 0) (A0 (pv 1) A4)))
   (B0 (D2 (B2 (bP2 K) (S0 (dB8 K) (pv 0) (X5 (pv 2)) X0) (S0 (dB8 K) (pv 0) X0 (X5 (pv 2))))))),K1 U r ?_ q⟩
 have g:l.idxOf x<l.length:=Ac4 Y
 refine B4 (F8 (d:=.int (l.idxOf x:Nat)) ?_ ?_)
 .have h:=aV4 (K:=K) (m:=true) (ρ:=sl0 ["ring", "first", "at"].length [tI (l.map λ(x:Nat)=>(x:Int)),.int (x:Int)]) (ta:=J7 0) (tb:=J7 1) (k:=(x:Int)) (A1 (i:=0) rfl) (A1 (i:=1) rfl) (Aa8.mpr ⟨x,Y,rfl⟩)
  rw[aE4 x l]at h;rw[bC6];exact h
 refine M8 (cZ6 (cB3 (ds:=nI l) (A1 rfl) (aC0 (A1 rfl)) y0 (F5 l)) (cB3 (ds:=nI l) (A1 rfl) y0 (aC0 (A1 rfl)) (F5 l)) (P0 _ _ (F5 l)) (P0 _ _ (F5 l)) ?_ ?_) ?_
 .rw[u7 (by rw[C8];lia),aT8]
  intro z
  have:=congrArg List.length z
  rw[C8,Ay]at this;simp at this
  lia
 .rw[u7 (by rw[C8];lia),aQ4 (by rw[C8];lia),Ay,Ad1,C8];unfold sizeLine;lia
 .show PyData.tuple _=tN _
  rw[u7 (by rw[C8];lia),aQ4 (by rw[C8];lia),aT8,bZ7,<- j4]
  rfl
theorem aS6 (T:Tx K mg a):FnOk P w K mg base CX0 2 a.aJ6 a.aI3 ["drawing", "outs", "place", "colour"] (spL K eB7):=by
 have k:FnOk P w K mg base CX0 1 _ _ _ _:=bE3 T
 have z:FnOk P w K mg base CX0 1 _ _ _ _:=aG8 T
 refine T.aC2.ok sc_children (cJ4 λds d ⟨_,_,_,_,_,_,_,_,e,_⟩=>by rw[e];rfl) (λcdv A outer s H vs Q E hr h=>?_)
 obtain⟨ds,S,es,hS,r,⟨m,y,tr,p,c,⟨m7,F,G,f,B⟩,hp,D,rfl,rfl⟩,q⟩:=h;obtain⟨tc,gc⟩:=T.E5;obtain⟨tk,gk⟩:=T.X9;refine⟨_,(A6 (C0 (i:=4) sc_children.nd rfl (Or.inl rfl) (B2 W6 (B2 G0 (pv 3) A7) (M6 (v:=.int 3) rfl gk ⟨tk,rfl⟩)))
   (A6 (N5 (B9 cX3 (pv 2) (M6 (v:=.int 3) rfl gc ⟨tc,rfl⟩) (C7 _)) (B0 (C0 (i:=5) sc_children.nd rfl (Or.inl rfl) (C6 k (hr.mono (by decide)) rfl T.aY5 T.aL3.kp T.aY9 .nil E2 (A0 (pv 1) (A0 (pv 2) (A0 (pv 4) A4)))))) (B0 (N5 (B9 i5 (pv 2) (pv 3) (C7 _)) (B0 (C0 (i:=5) sc_children.nd rfl (Or.inl rfl) (pv 4))) (B0 (D2 (C9 A4))))))
   (A6 (C0 (i:=6) sc_children.nd rfl (Or.inl rfl) (C6 z (hr.mono (by decide)) rfl T.aL2 T.y9.kp T.aL5 .nil E2 (A0 (B6 D7 (pv 0) (pv 2) (λ_ _=>rfl)) (A0 (pv 5) A4))))
   (B0 (D2 (X1 (T:=["q"]) (N':=["q", "outs", "colour", "place"]) (is:=[1,3,2]) rfl (.of rfl rfl rfl (by exact⟨rfl,rfl,rfl,trivial⟩) rfl rfl rfl (by exact⟨⟨_,rfl,by first | exact .inl rfl | exact .inr rfl,.inl rfl⟩,⟨_,rfl,by first | exact .inl rfl | exact .inr rfl,.inl rfl⟩,⟨_,rfl,by first | exact .inl rfl | exact .inr rfl,.inl rfl⟩,trivial⟩)) (aJ5 (pv 6)) (O8 (by decide)) λ_ _ _ _=>⟨(C5 (i:=0) ndq rfl (Or.inl rfl)),(V9 (PW.pt (bU4 (B9 cX3 (pv 0) (M6 (v:=.int 3) rfl gc ⟨tc,rfl⟩) (C7 _)) (bH4 (B9 i5 (C6 k (hr.mono (by decide)) rfl T.aY5 T.aL3.kp T.aY9 .nil E2 (A0 (pv 1) (A0 (pv 0) (A0 (pv 2) A4)))) (pv 3) (C7 _)))))),(pv 0)⟩)))))),aP0 hS r ?_ q⟩
 have e4:((c:Int)+1) % 3=(((c+1) % 3:Nat):Int):=by lia
 refine B4 (F8 (e_i (L9 (A1 rfl) A9) A9 (by decide)) ?_)
 rw[e4];by_cases N:3<=p\/p=c
 .refine B4 (cO3 [.val (.tuple (y.map tN)),.val (.tuple (tr.map tN)),.val (.int (p:Int)),.val (.int (c:Int)),.val (.int (((c+1) % 3:Nat):Int)),.val (.int (TT.P7 tr c p:Nat)),.no] (D1 (U7 (A1 rfl) A9)) (λh=>?_) (λh=>V4 (D1 (aD5 (A1 rfl) (A1 rfl))) (λU=>F8 (A1 rfl) ?_) (λU=>?_)) ?_)
  .have h:(p:Int)≥3:=Am h
   have Y:3<=p:=by lia
   obtain⟨X,h1,R⟩:=TT.dA5 B Y hp (Nat.mod_lt (c+1) (by decide))
   refine F8 (d:=.int (TT.og tr ((c+1) % 3) p:Nat)) (E6 (A5 (A1 rfl) (A5 (A1 rfl) (A5 (A1 rfl) B1))) ⟨tr,p,_,_,X,Y,h1,R,rfl,rfl⟩) ?_
   have:TT.P7 tr c p=TT.og tr ((c+1) % 3) p:=by unfold TT.P7;rw[Ae Y]
   rw[this];rfl
  .have h:¬(p:Int)≥3:=Bm h
   have:TT.P7 tr c p=(c+1) % 3:=by unfold TT.P7;rw[Ac (by lia)]
   rw[this];rfl
  .have h:¬(p:Int)≥3:=Bm h
   have U:¬(p:Int)=(c:Int):=Bm U
   lia
  have hm:=B.fst_mem D hp N
  refine B4 (F8 (E6 (A5 (E4 (d':=tN (TT.trn y p)) (A1 rfl) (A1 rfl) rfl (M3 p rfl (by rw[Aa9,eB0 B hp];rfl))) (A5 (A1 rfl) B1)) ⟨TT.trn y p,TT.P7 tr c p,hm,by have:=cO8 B hp;lia,rfl,rfl⟩) ?_)
  have J:∀q∈(TT.trn y p).drop ((TT.trn y p).idxOf (TT.P7 tr c p))++(TT.trn y p).take ((TT.trn y p).idxOf (TT.P7 tr c p)),q<m+3:=λq hq=>by
   rcases Aa0.mp hq with h | h
   .exact cA4 B hp q (Bx h)
   .exact cA4 B hp q (As h)
  have hlen:((TT.trn y p).drop ((TT.trn y p).idxOf (TT.P7 tr c p))++(TT.trn y p).take ((TT.trn y p).idxOf (TT.P7 tr c p))).length<=10:=by
   have:=cO8 B hp
   rw[Ab7,Ay,Ad1];lia
  have cm:=P2 (K:=K) (m:=true) (ρ:=[.val (.tuple (y.map tN)),.val (.tuple (tr.map tN)),.val (.int (p:Int)),.val (.int (c:Int)),.val (.int (((c+1) % 3:Nat):Int)),.val (.int (TT.P7 tr c p:Nat)),.val (tN ((TT.trn y p).drop ((TT.trn y p).idxOf (TT.P7 tr c p))++(TT.trn y p).take ((TT.trn y p).idxOf (TT.P7 tr c p))))]) (n:=1) (is:=[1,3,2]) (g:=V6 0) (tt:=dT4 (aS4 (tOp (rI0 λi j=>.bl (decide (i≥j))) (J7 0) (tC (.int 3)))) (aS4 (tOp rEq (bC3 (spV K bM1) [] E0 (K7 (J7 1) (K7 (J7 0) (K7 (J7 2) S8)))) (J7 3)))) (te:=J7 0) (fch tr c p) (aW6 (ds:=nI _) (A1 (i:=6) rfl)) (by rw[C8];unfold sizeLine;lia) (λd hd=>by
   obtain⟨x,hx,rfl⟩:=Aa8.mp hd;have hx:=J x hx;refine⟨_,D5,?_⟩;have M:=cS0 (K:=K) (ρ:=(slC [.val (.tuple (y.map tN)),.val (.tuple (tr.map tN)),.val (.int (p:Int)),.val (.int (c:Int)),.val (.int (((c+1) % 3:Nat):Int)),.val (.int (TT.P7 tr c p:Nat)),.val (tN ((TT.trn y p).drop ((TT.trn y p).idxOf (TT.P7 tr c p))++(TT.trn y p).take ((TT.trn y p).idxOf (TT.P7 tr c p))))] 1 [1,3,2]).set 0 (.val (.int (x:Int)))) (u:=aS4 (tOp (rI0 λi j=>.bl (decide (i≥j))) (J7 0) (tC (.int 3)))) (w:=aS4 (tOp rEq (bC3 (spV K bM1) [] E0 (K7 (J7 1) (K7 (J7 0) (K7 (J7 2) S8)))) (J7 3))) (b:=decide ((TT.og tr c x:Int)=(p:Int))) (D1 (U7 (A1 (i:=0) rfl) (A9 (i:=3)))) (λh=>by
    have h:(x:Int)≥3:=Am h
    obtain⟨X,h1,R⟩:=TT.dA5 B (by lia) hx D
    exact D1 (aD5 (E6 (A5 (A1 (i:=1) rfl) (A5 (A1 (i:=0) rfl) (A5 (A1 (i:=2) rfl) B1))) ⟨tr,x,c,_,X,by lia,h1,R,rfl,rfl⟩) (A1 (i:=3) rfl)))
   have eb:(decide ((x:Int)≥3)&&decide ((TT.og tr c x:Int)=(p:Int)))=TT.s9 tr c p x:=by
    unfold TT.s9
    congr 1
    .exact Cz.mpr (by lia)
    .exact Cz.mpr (by lia)
   rw[eb]at M;have e:fch tr c p (.int (x:Int))=if TT.s9 tr c p x then some (.int (x:Int)) else none:=by simp[fch]
   rw[e];cases hb:TT.s9 tr c p x with
   | false=>rw[hb]at M;exact M
   | true=>rw[hb]at M;exact⟨M,A1 rfl⟩)
  rw[dE3,B.chd_eq D hp N]at cm;refine aO8 cm ?_;show _=nI (ch y tr c p);unfold ch;rw[Ae N]
 .refine B4 (V4 (D1 (U7 (A1 rfl) A9)) (λh=>?_) (λh=>V4 (D1 (aD5 (A1 rfl) (A1 rfl))) (λU=>?_) (λU=>aO8 (J8 B1) ?_)))
  .have h:(p:Int)≥3:=Am h
   lia
  .have h:(p:Int)=(c:Int):=Am U
   lia
  .show []=nI (ch y tr c p)
   unfold ch;rw[Ac N];rfl
end
end K48
namespace LV
open PySem PySem.Spec PyProof.Rows L2
end LV
namespace L2
open PySem PySem.Spec PyProof.Rows
section
variable {X:Cx}{s:Shared}
theorem cM5 {A:Around}{P:Program}{w:World}{E:Dy}{l:Addr}{xs:Array (Int×Tok)}{Q:Dy}(Y:A.handled=none)(z:s.heap.IsTuple l (intItems xs))(r:0<xs.size)
  (h:∀v h' tk,(intItems xs)[argBest (λi j=>decide (numAt xs i<numAt xs j)) (xs.size-1)]? = some v->(∀b o,s.heap.get? b=some o->h'.get? b=some o)->Q v {s with heap:=h',toks:=tk}):wpAny (model P w) A (call (.builtin "min") [.ref l]) Q E s:=by
 have y:l<s.heap.objs.size:=by obtain⟨_,e,_⟩:=z;exact Ab3 e
 refine call_min_walk (wpAny_pyIter_tuple z ?_);refine⟨_,_,_,_,_,_,_,rfl,Walks.tuple (A:=A.in1) Y _ l (Ab9 y) (intItems xs),⟨⟨_,Ac3 _ rfl,rfl,rfl⟩,cX8 (b:=l) z λo e=>Aa6 _ e⟩,λb g=>?_,by simpa[intItems]using r,CmpOf.ints_lt (numAt xs) (λ_ _=>intItems_at),λv h' tk m U=>?_⟩
 .show b<(s.heap.push _).objs.size
  rw[Ca];simp only[Aa1,Ac2,or_false]at g;rcases g with rfl | rfl
  .exact Nat.lt_succ_self _
  .exact Bw y
 .exact h v h' tk (by simpa[intItems]using m) λb o e=>U b o (λJ=>by
   have k:b=s.heap.objs.size:=by simpa using J
   exact absurd (k▸Ab3 e) (Ad9 _)) (Aa6 _ e)
theorem bC2 (K:Frag)(J:X.calm=true)(h:X.K=K:=by rfl):T0 X (.builtin "min") (λxs H Q=>∃(p:Addr) (l:AC),xs=[.ref p]/\SqT K H p (l.map V.int)/\l≠[]/\∀M,M∈l->(∀a∈l,M<=a)->Q (.int M) H):=by
 subst h;intro aA s σ H xs us Q I r ⟨p,B,e,D,z,q⟩;subst e;obtain⟨u,rfl,rx⟩:=V7 r;cases rx;obtain⟨its,P,Y,_⟩:=I.tuple D;have hi:=LV.U4 P;obtain⟨xs,e⟩:=hi.allInts.items;have y:B=xs.toList.map (·.1):=by rw[<- hi.numsOf,<- nums_intItems,<- e]
 have g:0<xs.size:=by
  have k:=Dt.mpr z;rw[y,Aa3,Ap]at k;exact k
 rw[e]at Y;refine cM5 (I.ok.hd J) Y g λv h' tk F R=>?_
 obtain⟨t,rfl⟩:=intItems_at F;obtain⟨h1,U⟩:=argBest_lt (numAt xs) (xs.size-1);refine⟨.int _,H,I.kept R,⟨_,rfl⟩,q _ ?_ λa m=>?_⟩
 .rw[y,numAt_eq];exact getD_mem (by rw[Aa3,Ap];lia)
 .rw[y]at m;obtain⟨j,N,rfl⟩:=mem_getD m;rw[Aa3,Ap]at N;rw[<- numAt_eq];exact U j (by lia)
end
end L2
namespace LV
open PySem PySem.Spec PyProof.Rows L2
section
variable {K:Frag}{ρ:List Sl}{m:Bool}{t ta tb:TE}{d d':PyData}{ds es:AD}
theorem cT0 {t:TA}{l:AC}{M:Int}(g:A K false t ρ [tI l])(e:M∈l/\∀a∈l,M<=a):E K m (tCB (λxs H Q=>∃(p:Addr) (l:AC),xs=[.ref p]/\SqT K H p (l.map V.int)/\l≠[]/\∀M,M∈l->(∀a∈l,M<=a)->Q (.int M) H) t) ρ (.int M):=cR4 g λH vs Q r q=>by
 cases r with
 | cons a b=>
  cases b
  obtain⟨p,rfl,s⟩:=cE6 a;refine⟨p,l,rfl,s,List.ne_nil_of_mem e.1,λy h1 z=>?_⟩
  have:y=M:=Int.le_antisymm (z M e.1) (e.2 y h1)
  rw[this];exact q _ λ_=>.int _
end
end LV
namespace K48
open PySem L2 LV PyProof.Rows
theorem aG0:D4 ["ring"] ["ring"] (C3 Q8):=⟨rfl,rfl,rfl,by decide +kernel,rfl,by decide +kernel,by decide +kernel⟩
def cL (l:AB):AC:=l.map λ(x:Nat)=>(x:Int)
theorem bT5 (l:AB):tN l=tI (cL l):=bC6 l
def dR1 (ds:AD)(d:PyData):Prop:=∃l:AB,l≠[]/\l.length<=10000/\ds=[tN l]/\d=tN (TT.G4 l)
section
variable {P:Program}{w:World}{K:Frag}{mg:Str->Option Value}{base:Heap}{a:Ad}
theorem cM1 (T:Tx K mg a):FnOk P w K mg base CX0 2 a.Q7 a.Q5 ["ring"] (spV K dR1):=by
 have y:FnOk P w K mg base CX0 1 _ _ _ _:=aG8 T
 refine T.Y9.ok aG0 (T5 (by rintro ds d ⟨_,_,_,e,_⟩;rw[e];rfl)) (λY A k s H vs Q E N h=>?_)
 obtain⟨ds,S,d,X,r,⟨l,g,J,rfl,rfl⟩,q⟩:=h;refine⟨_,(B0 (D2 (C6 y (N.mono (by decide)) rfl T.aL2 T.y9.kp T.aL5 .nil E2 (A0 (pv 0) (A0 (B8 (bC2 K rfl) (by rfl) T.bQ1 boot_min (A0 (pv 0) A4)) A4))))),K1 X r ?_ q⟩
 obtain⟨m,z⟩:=TT.aO0 g;refine M8 (E6 (A5 (A1 (i:=0) rfl) (A5 (cT0 (l:=cL l) (M:=(TT.mn l:Int)) (A5 (by rw[<- bT5];exact A1 (i:=0) rfl) B1) ⟨Aa8.mpr ⟨_,m,rfl⟩,λc U=>?_⟩) B1)) ⟨l,TT.mn l,m,J,rfl,rfl⟩) rfl
 obtain⟨x,R,rfl⟩:=Aa8.mp U
 have:=z x R
 lia
end
set_option maxHeartbeats 1000000
theorem sc_turn_of:D4 ["outs", "coming", "place", "around", "colour", "triple"] ["outs", "coming", "place"] (C3 aQ8):=⟨rfl,rfl,rfl,by decide +kernel,rfl,by decide +kernel,by decide +kernel⟩
theorem sc_of_rows:D4 ["first", "second", "fault", "growth", "outs", "n", "coming", "turns"] ["first", "second"] (C3 aQ1):=⟨rfl,rfl,rfl,by decide +kernel,rfl,by decide +kernel,by decide +kernel⟩
def oc (F G:Nat->Nat)(m c q:Nat):Nat:=(o7 F G m (q-3)).getD c 0
def cmg (F G:Nat->Nat)(m c:Nat):AB:=if c=0 then(List.range m).map (· + 3) else if c=1 then((List.range m).map (· + 3)).reverse else tkA F G m
def arn (F G:Nat->Nat)(m p c:Nat):AB:=(cmg F G m c).filter λq=>oc F G m c q==p
def fTO (F G:Nat->Nat)(m p c:Nat):PyData->Option PyData
 | .int q=>if(oc F G m c q.toNat==p)=true then some (.int q) else none
 | _=>none
theorem dE1 (F G:Nat->Nat)(m p c:Nat)(l:AB):(nI l).filterMap (fTO F G m p c)=nI (l.filter λq=>oc F G m c q==p):=by
 unfold nI;induction l with
 | nil=>rfl
 | cons x l y=>
  rw[Ac7,Ak,List.filter_cons,y];have e:fTO F G m p c (.int (x:Int))=if(oc F G m c x==p)=true then some (.int (x:Int)) else none:=by simp[fTO]
  rw[e];cases oc F G m c x==p <;> simp
theorem aW7 {F G:Nat->Nat}{m:Nat}(R:TT.Rws F G m):∀x∈tkA F G m,3<=x/\x<m+3:=λx hx=>by
 have I:=TT.E1 R m (Aa7 _)
 obtain⟨p,g⟩:=I.inv.pe;obtain⟨h,r⟩:=I.inv.he;have y:=I.inv.lt 2;have e:=I.inv.nd 2;have s:=I.inv.bd;have Y:(TT.gst F G m).row 2=0::((p.reverse++h)++[1]):=by rw[TT.Y4,g,r];simp
 rw[Y]at y e;unfold tkA at hx;rw[g,r]at hx;simp only[List.dropLast_concat]at hx;rcases Aa0.mp hx with hx | hx
 .exact(TT.bX0 R m (Aa7 _) x hx).2
 .have X:=y x (by simp only[Aa1,Aa0];exact .inr (.inl (Aa0.mp hx)))
  rw[I.k]at X;have U:x≠0:=λz=>(Aa5.mp e).1 (by rw[<- z];exact Aq _ hx)
  have J:x≠1:=λz=>(Aa4.mp (Aa5.mp e).2).2.2 x hx 1 (by simp) z
  have M:=(s x ((Aa0.mp hx).imp (λz=>by rw[g];exact Aq _ (Bv.mp z)) λz=>by rw[r];exact Aq _ z)).1
  lia
theorem dY2 {F G:Nat->Nat}{m c:Nat}(R:TT.Rws F G m):∀x∈cmg F G m c,3<=x/\x<m+3:=λx e=>by
 have z:∀y∈(List.range m).map (· + 3),3<=y/\y<m+3:=λy g=>by
  obtain⟨j,r,rfl⟩:=Aa8.mp g
  have:=Ab5.mp r
  constructor <;> lia
 unfold cmg at e;split at e
 .exact z x e
 .split at e
  .exact z x (Bv.mp e)
  .exact aW7 R x e
theorem eF6 {F G:Nat->Nat}{m x c:Nat}(y:3<=x)(e:c<3):(o7 F G m (x-3))[c]? = some (oc F G m c x):=by
 unfold oc;rw[Ac0]
 have:c<(o7 F G m (x-3)).length:=by unfold o7;exact e
 rw[Aa2 this];rfl
theorem eJ4 {F G:Nat->Nat}{m x:Nat}(e:3<=x):oc F G m 0 x=(TT.gst F G m).o0 x:=by
 show(TT.gst F G m).o0 (x-3+3)=_
 rw[show x-3+3=x by lia]
theorem eJ7 {F G:Nat->Nat}{m x:Nat}(e:3<=x):oc F G m 1 x=(TT.gst F G m).o1 x:=by
 show(TT.gst F G m).o1 (x-3+3)=_
 rw[show x-3+3=x by lia]
theorem eH1 {F G:Nat->Nat}{m x:Nat}(e:3<=x):oc F G m 2 x=(TT.gst F G m).o2 x:=by
 show(TT.gst F G m).o2 (x-3+3)=_
 rw[show x-3+3=x by lia]
theorem dN5 (F G:Nat->Nat)(m p:Nat):arn F G m p 0=(TT.gst F G m).i0 p:=by
 rw[TT.cY4];show((List.range m).map (· + 3)).filter _=_;refine List.filter_congr λq e=>?_
 obtain⟨j,_,rfl⟩:=Aa8.mp e;rw[eJ4 (by lia)]
theorem dK9 (F G:Nat->Nat)(m p:Nat):arn F G m p 1=((TT.gst F G m).i1 p).reverse:=by
 rw[TT.cP9,<- List.filter_reverse];show(((List.range m).map (· + 3)).reverse).filter _=_;refine List.filter_congr λq e=>?_
 obtain⟨j,_,rfl⟩:=Aa8.mp (Bv.mp e);rw[eJ7 (by lia)]
theorem eF3 {F G:Nat->Nat}{m p:Nat}(R:TT.Rws F G m)(hp:p<m):arn F G m (p+3) 2=(TT.gst F G m).i2 (p+3):=by
 have I:=TT.E1 R m (Aa7 _)
 rw[TT.bQ8 F G (i:=p) m hp];have h1:=TT.cG2 R (p:=p) m (Aa7 _);rw[Ae hp]at h1;show(tkA F G m).filter _=_;have g:(tkA F G m).filter (λq=>oc F G m 2 q==p+3)=(tkA F G m).filter (λq=>(TT.gst F G m).o2 q==p+3):=List.filter_congr λq s=>by rw[eH1 (aW7 R q s).1]
 rw[g];unfold tkA;rw[Cm,h1];have y:((TT.gst F G m).path.dropLast.reverse++(TT.gst F G m).heap.dropLast).filter (λq=>(TT.gst F G m).o2 q==p+3)=[]:=List.filter_eq_nil_iff.mpr λx e=>by
  have k:x∈(TT.gst F G m).path\/x∈(TT.gst F G m).heap:=(Aa0.mp e).imp (λz=>List.dropLast_subset _ (Bv.mp z)) λz=>List.dropLast_subset _ z
  have r:=(aW7 R x (by unfold tkA;exact Ac1 _ e)).1
  rw[(I.inv.bd x k).2 r]
  simp
 rw[y,Bl]
theorem dP4 {F G:Nat->Nat}{m:Nat}(R:TT.Rws F G m):arn F G m 2 2=(TT.gst F G m).path.dropLast.reverse++(TT.gst F G m).heap.dropLast:=by
 have I:=TT.E1 R m (Aa7 _)
 show(tkA F G m).filter _=_
 have g:(tkA F G m).filter (λq=>oc F G m 2 q==2)=(tkA F G m).filter (λq=>(TT.gst F G m).o2 q==2):=List.filter_congr λq s=>by rw[eH1 (aW7 R q s).1]
 rw[g];unfold tkA;rw[Cm];have y:(TT.tks F G m).filter (λq=>(TT.gst F G m).o2 q==2)=[]:=List.filter_eq_nil_iff.mpr λx e=>by
  have:=(TT.bX0 R m (Aa7 _) x e).1
  simp;lia
 have h1:((TT.gst F G m).path.dropLast.reverse++(TT.gst F G m).heap.dropLast).filter (λq=>(TT.gst F G m).o2 q==2)=(TT.gst F G m).path.dropLast.reverse++(TT.gst F G m).heap.dropLast:=List.filter_eq_self.mpr λx e=>by
  have k:x∈(TT.gst F G m).path\/x∈(TT.gst F G m).heap:=(Aa0.mp e).imp (λz=>List.dropLast_subset _ (Bv.mp z)) λz=>List.dropLast_subset _ z
  have r:=(aW7 R x (by unfold tkA;exact Ac1 _ e)).1
  rw[(I.inv.bd x k).2 r]
  simp
 rw[y,h1,List.nil_append]
theorem dG1 {F G:Nat->Nat}{m p c:Nat}(R:TT.Rws F G m)(e:m<=7):(arn F G m p c).length<=100:=by
 refine Bf (List.length_filter_le _ _) ?_;unfold cmg;split
 .simp;lia
 .split
  .simp;lia
  .unfold tkA;have I:=TT.E1 R m (Aa7 _)
   have:=I.p;have:=I.h;have:=I.le;have:=I.le2
   rw[Ab7,aM3 R m (Aa7 _),Ab7,Ae1,List.length_dropLast,List.length_dropLast]
   lia
def bV9 (F G:Nat->Nat)(m:Nat):PyData:=.tuple (((List.range m).map (o7 F G m)).map tN)
def cmD (F G:Nat->Nat)(m:Nat):PyData:=.tuple [lN (cmg F G m 0),lN (cmg F G m 1),lN (cmg F G m 2)]
def eC8 (ds es:AD):Prop:=∃(F G:Nat->Nat) (m p:Nat),m<=7/\TT.Rws F G m/\p<m+3/\ds=[bV9 F G m,cmD F G m,.int (p:Int)]/\es=nI ((TT.gst F G m).row p)
theorem Q1 {K:Frag}{t:TE}{ρ:List Sl}{b b':Bool}(h:LV.E K false t ρ (.bool b))(e:b=b'):LV.T K (aS4 t) ρ b':=e▸D1 h
theorem bN4 {K:Frag}{t:TE}{ρ:List Sl}{x:Nat}(h:LV.E K true t ρ (.int (x:Int))):EF K (dH6 (K7 t S8)) ρ (nI [x]):=J8 (A5 h B1) (by show(1:Nat)<=PySem.sizeLine;decide)
theorem EI.to {K:Frag}{t:TE}{ρ:List Sl}{m:Bool}{i j:Int}(h:LV.E K m t ρ (.int i))(e:i=j):LV.E K m t ρ (.int j):=e▸h
section
variable {P:Program}{w:World}{K:Frag}{mg:Str->Option Value}{base:Heap}{a:Ad}
theorem eG0 (T:Tx K mg a):FnOk P w K mg base CX0 2 a.aQ7 a.aP4 ["outs", "coming", "place"] (spL K eC8):=by
 have Y:FnOk P w K mg base CX0 1 _ _ _ _:=bE3 T
 refine T.bC8.ok sc_turn_of (cJ4 λds d ⟨_,_,_,_,_,_,_,e,_⟩=>by rw[e];rfl) (λcdv A outer s H vs Q E hr h=>?_)
 obtain⟨ds,S,es,hS,r,⟨F,G,m,p,hm,R,hp,rfl,rfl⟩,q⟩:=h;obtain⟨y,N⟩:=T.E5;obtain⟨g,X9⟩:=T.X9;refine⟨_,(A6 (C0 (i:=3) sc_turn_of.nd rfl (Or.inl rfl) (C9 A4))
   (A6 (G5 Aj rfl (G8 rfl T.J0 (A0 (M6 (v:=.int 3) rfl X9 ⟨g,rfl⟩) A4)) (C5 (i:=4) sc_turn_of.nd rfl (Or.inr rfl)) (B0 (E8 (J9 Ab1 Ag Af D9 (pv 3) (A0 (X1 (T:=["q"]) (N':=["q", "outs", "colour", "place"]) (is:=[0,4,2]) rfl (.of rfl rfl rfl (by exact⟨rfl,rfl,rfl,trivial⟩) rfl rfl rfl (by exact⟨⟨_,rfl,by first | exact .inl rfl | exact .inr rfl,by first | exact .inl rfl | exact .inr rfl⟩,⟨_,rfl,by first | exact .inl rfl | exact .inr rfl,by first | exact .inl rfl | exact .inr rfl⟩,⟨_,rfl,by first | exact .inl rfl | exact .inr rfl,by first | exact .inl rfl | exact .inr rfl⟩,trivial⟩)) (P3 (B6 (ixK K) (pv 1) (pv 4) (λ_ _=>rfl))) (O8 (by decide)) λ_ _ _ _=>⟨(C5 (i:=0) (by decide +kernel:(["q", "outs", "colour", "place"]:AG).Nodup) rfl (Or.inl rfl)),(V9 (B9 i5 (C6 Y (hr.mono (by decide)) rfl T.aY5 T.aL3.kp T.aY9 .nil E2 (A0 (pv 1) (A0 (pv 0) (A0 (pv 2) A4)))) (pv 3) (C7 _))),(pv 0)⟩) A4)))))
   (A6 (N5 (B9 aH2 (pv 2) (M6 (v:=.int 3) rfl N ⟨y,rfl⟩) (C7 _)) (B0 (D2 (B2 (J4 K) (B2 (J4 K) (C9 (A0 (B2 W6 (B2 G0 (pv 2) A7) (M6 (v:=.int 3) rfl N ⟨y,rfl⟩)) A4)) (B6 (ixK K) (pv 3) (pv 2) (λ_ _=>rfl))) (C9 (A0 (B2 W6 (B2 G0 (pv 2) A7) (M6 (v:=.int 3) rfl N ⟨y,rfl⟩)) A4))))) H9)
   (A6 (C0 (i:=5) sc_turn_of.nd rfl (Or.inl rfl) (B6 (ixK K) (pv 0) (B2 L4 (pv 2) (M6 (v:=.int 3) rfl N ⟨y,rfl⟩)) (λ_ _=>rfl)))
   (B0 (D2 (B2 (J4 K) (B2 (J4 K) (B2 (J4 K) (B2 (J4 K) (B2 (J4 K) (C9 (A0 (B6 (ixK K) (pv 5) A7 (λ_ _=>rfl)) A4)) (B6 (ixK K) (pv 3) A7 (λ_ _=>rfl))) (C9 (A0 (B6 (ixK K) (pv 5) A7 (λ_ _=>rfl)) A4))) (B6 (ixK K) (pv 3) A7 (λ_ _=>rfl))) (C9 (A0 (B6 (ixK K) (pv 5) A7 (λ_ _=>rfl)) A4))) (B6 (ixK K) (pv 3) A7 (λ_ _=>rfl))))))))),aP0 hS r ?_ q⟩
 have I:=TT.E1 R m (Aa7 _)
 have hk:=I.k
 refine B4 (K2 (ds:=[]) (J8 B1) ?_);refine B4 (N2 (Q4 (A5 A9 B1) (by decide) (by decide)) (λj ρ=>∃B,B.nb=true/\ρ=[.val (bV9 F G m),.val (cmD F G m),.val (.int (p:Int)),.own ((List.range j).map λc=>lN (arn F G m p c)),B,.no]) ⟨.no,rfl,rfl⟩ ?_ ?_)
 .rintro j d _ hj ⟨B,b4,rfl⟩;obtain⟨rfl,hj2⟩:=Q6 hj;have hj:j<3:=by simpa using hj2
  refine⟨_,D5,?_⟩;have hcm:atI [lN (cmg F G m 0),lN (cmg F G m 1),lN (cmg F G m 2)] (j:Int)=some (lN (cmg F G m j)):=by
   rcases (show j=0\/j=1\/j=2 by lia) with rfl | rfl | rfl <;> rfl
  have hl:(nI (cmg F G m j)).length<PySem.sizeLine:=by
   have:(cmg F G m j).length<=1000:=by
    unfold cmg;split
    .simp;lia
    .split
     .simp;lia
     .unfold tkA
      have:=I.p;have:=I.h;have:=I.le;have:=I.le2
      rw[Ab7,aM3 R m (Aa7 _),Ab7,Ae1,List.length_dropLast,List.length_dropLast]
      lia
   rw[C8];unfold sizeLine;lia
  refine P5 (d:=lN (arn F G m p j)) rfl (EF.e' (EF.to (P2 (m:=true) (fTO F G m p j) (U0 (ds:=nI (cmg F G m j)) (E4 (d:=cmD F G m) (A1 rfl) (A1 rfl) rfl hcm)) hl λd hd=>?_) (dE1 F G m p j _))) (by simp;unfold sizeLine;lia) ⟨.val (.int (j:Int)),rfl,?_⟩
  .unfold nI at hd;obtain⟨x,hx,rfl⟩:=Aa8.mp hd;obtain⟨x3,xl⟩:=dY2 R x hx;refine⟨_,D5,?_⟩;have ef:fTO F G m p j (.int (x:Int))=if(oc F G m j x==p)=true then some (.int (x:Int)) else none:=by simp[fTO]
   have U:bM1 [bV9 F G m,.int (x:Int),.int (j:Int)] (.int (oc F G m j x:Nat)):=⟨(List.range m).map (o7 F G m),x,j,oc F G m j x,o7 F G m (x-3),x3,by rw[Aa9,List.getElem?_range (by lia)];rfl,eF6 x3 hj,rfl,rfl⟩
   rw[ef];by_cases c:oc F G m j x=p
   .rw[Ae (by simp[c])]
    exact⟨Q1 (aD5 (E6 (A5 (A1 rfl) (A5 (A1 rfl) (A5 (A1 rfl) B1))) U) (A1 rfl)) (Bu (by lia)),A1 rfl⟩
   .rw[Ac (by simp[c])]
    exact Q1 (aD5 (E6 (A5 (A1 rfl) (A5 (A1 rfl) (A5 (A1 rfl) B1))) U) (A1 rfl)) (Ba (by lia))
  rw[Bd,Ad2];rfl
 rintro _ ⟨B,b4,rfl⟩;rw[show(P6 0 (3:Int).toNat).length=3 by simp[P6]]
 have D:∀c:Nat,c<3->atI ((List.range 3).map λc=>lN (arn F G m p c)) (c:Int)=some (lN (arn F G m p c)):=λc hc=>M3 c rfl (by rw[Aa9,List.getElem?_range hc];rfl)
 have al:∀c,(arn F G m p c).length<=100:=λc=>dG1 R hm
 refine B4 (V4 (D1 (U7 (A1 rfl) A9)) (λh=>?_) (λh=>M2 ?_))
 .have M:p<3:=by have:=Am h;lia
  have X:(TT.gst F G m).row p=[(p+1) % 3]++arn F G m p p++[(p+2) % 3]:=by
   rcases (show p=0\/p=1\/p=2 by lia) with rfl | rfl | rfl
   .rw[TT.aC5,dN5];simp
   .rw[TT.aK6,dK9];simp
   .obtain⟨pp,ep⟩:=I.inv.pe;obtain⟨h,eh⟩:=I.inv.he;rw[dP4 R,TT.Y4,ep,eh];simp
  have:=al p
  rw[X];exact aO8 (M1 (EF.e' (M1 (EF.e' (bN4 (x:=(p+1) % 3) (EI.to (e_i (L9 (A1 rfl) A9) A9 (by decide)) (by lia)))) (E4 (K4 rfl) (A1 rfl) rfl (D p M)) (by simp;lia))) (EF.e' (bN4 (x:=(p+2) % 3) (EI.to (e_i (L9 (A1 rfl) A9) A9 (by decide)) (by lia)))) (by simp;lia)) rfl
 have M:3<=p:=by have:=Bm h;lia
 obtain⟨z,rfl⟩:∃z,p=z+3:=⟨p-3,by lia⟩
 have J:z<m:=by lia
 refine B4 (F8 (d:=tN (o7 F G m z)) (E4 (d:=bV9 F G m) (A1 rfl) (L9 (A1 rfl) A9) rfl (M3 z (by lia) (by rw[Aa9,Aa9,List.getElem?_range J];rfl))) ?_)
 have X:(TT.gst F G m).row (z+3)=[(TT.gst F G m).o0 (z+3)]++arn F G m (z+3) 2++[(TT.gst F G m).o1 (z+3)]++arn F G m (z+3) 0++[(TT.gst F G m).o2 (z+3)]++arn F G m (z+3) 1:=by
  rw[TT.M7 (by lia) (by lia),dN5,dK9,eF3 R J];simp
 have:=al 0
 have:=al 1
 have:=al 2
 rw[X];exact aO8 (M1 (EF.e' (M1 (EF.e' (M1 (EF.e' (M1 (EF.e' (M1 (EF.e' (bN4 (E4 (ds:=nI (o7 F G m z)) (A1 rfl) A9 rfl rfl))) (E4 (K4 rfl) A9 rfl (D 2 (by decide))) (by simp;lia))) (EF.e' (bN4 (E4 (ds:=nI (o7 F G m z)) (A1 rfl) A9 rfl rfl))) (by simp;lia))) (E4 (K4 rfl) A9 rfl (D 0 (by decide))) (by simp;lia))) (EF.e' (bN4 (E4 (ds:=nI (o7 F G m z)) (A1 rfl) A9 rfl rfl))) (by simp;lia))) (E4 (K4 rfl) A9 rfl (D 1 (by decide))) (by simp;lia)) rfl
end
end K48
namespace LV
open PySem PySem.Spec PyProof.Rows L2
section
variable {X:Cx}
def aR7 (i:Int)(n:Nat):List V:=(List.range n).map λ(k:Nat)=>V.int (i-(k:Int))
def eE3 (ta:TA):TE:=λσ H Q=>ta σ H λvs H1=>∃i j:Int,vs=[.int i,.int j,.int (-1)]/\(-(2^20)<=i/\i<2^20 /\ -(2^20)<=j/\j<2^20)/\∀l,H1 l=none->Q (.ref l) (upd H1 l (.lst (aR7 i (i-j).toNat)))
theorem cU0 {a b c:Expr}{ta:TA}{p1 p2 pos1 pos2:Pos}(hc:X.calm=true)(J:Gl X "list")(N:X.mg "list" = none)(hg:Gl X "range")(hm:X.mg "range" = none)(ha:PA X [a,b,c] ta)(hs:starEach [a,b,c] X.env=[(false,eval a X.env),(false,eval b X.env),(false,eval c X.env)]:=by rfl)(z:starEach [b,c] X.env=[(false,eval b X.env),(false,eval c X.env)]:=by rfl)
  (g:starEach [Expr.Call (.Name "range" p2) [a,b,c] [] pos2] X.env=[(false,eval (Expr.Call (.Name "range" p2) [a,b,c] [] pos2) X.env)]:=by rfl) :
  PE X (.Call (.Name "list" p1) [.Call (.Name "range" p2) [a,b,c] [] pos2] [] pos1) (eE3 ta):=by
 refine⟨?_⟩;intro F s σ H Q I h;refine wpAny_Call_Name_kw (R9 I J N boot_list ?_);refine An ?_ (by rw[g];rfl) rfl
 rw[g];show wpAny _ _ (spliced [(false,eval (Expr.Call (.Name "range" p2) [a,b,c] [] pos2) X.env)]) _ _ s;refine Calls.spliced_cons ?_;refine Call_ (R9 I hg hm boot_range (An (thn (ha pos2 F s σ H _ I h) λus Y ⟨vs,H1,U,r1,D⟩=>?_) (by rw[hs,z]) (by rw[z];rfl)))
 obtain⟨i,j,e,⟨D,q2,q3,q4⟩,q⟩:=D;subst e;cases r1 with
 | cons r rr=>
  cases rr with
  | cons r' rr=>
   cases rr with
   | cons R rr=>
    cases rr
    obtain⟨t,rfl⟩:=r;obtain⟨t',rfl⟩:=r';obtain⟨t'',rfl⟩:=R;refine call_range_3 (by decide) (Calls.spliced_nil ?_) (Or.inl (PyProof.noPylong_small (by lia)))
    refine call_list_range (n:=(i-j).toNat) (U.ok.hd hc) (IsRange.new ..) (L2.bX8 (by lia) (by lia) (by lia) (by lia)) (L2.bC5 i j) (by lia) λh' tk y B kp el it=>?_
    have rv:Vals (aR7 i (i-j).toNat) y.toList:=by
     obtain⟨hz,M⟩:=it;refine aU4 (by simp[aR7,hz]) λk v u m P=>?_
     obtain⟨t,rfl⟩:=M k u (by simpa using P)
     have hk:k<(i-j).toNat:=by
      have:=(Ab0.mp m).1
      simpa[aR7]using this
     unfold aR7 at m;rw[Aa9,List.getElem?_range hk]at m;cases m;exact⟨t,by rw[show i+(k:Int)*(-1)=i-(k:Int) by lia]⟩
    refine⟨.ref _,_,U.laid (λb o e=>kp b o (Aa6 _ e)) ?_ (show ObjOk X.prog X.w _ h' _ (.lst _) from⟨?_,y.toList,B,rv,by simpa using el⟩),rfl,q _ (U.hok.fresh ?_)⟩
    .show Y.heap.objs.size<=(Y.heap.push _).objs.size
     rw[Ca];exact Nat.le_succ _
    .simp[aR7];unfold sizeLine;lia
    .show Y.heap.objs.size<=(Y.heap.push _).objs.size
     rw[Ca];exact Nat.le_succ _
end
section
variable {K:Frag}{ρ:List Sl}{t:TA}
theorem cX7 {i j:Int}(s:A K false t ρ [.int i,.int j,.int (-1)])(m : -(2^20)<=i/\i<2^20 /\ -(2^20)<=j/\j<2^20):EF K (eE3 t) ρ (bQ6 i (i-j).toNat):=λS B σ H o I Q q=>s S B σ H o I _ λvs Y y r=>by
 cases r with
 | cons a b=>
  cases a
  cases b with
  | cons a b=>
   cases a
   cases b with
   | cons a b=>
    cases a;cases b
    refine⟨i,j,rfl,m,λl e=>?_⟩
    refine q l _ _ (L2.Same.tr y (D8 e)) (T1 y e) B3 ?_;have z:aR7 i (i-j).toNat=((List.range (i-j).toNat).map λ(k:Nat)=>i-(k:Int)).map V.int:=by simp[aR7]
    have g:bQ6 i (i-j).toNat=((List.range (i-j).toNat).map λ(k:Nat)=>i-(k:Int)).map PyData.int:=by simp[bQ6]
    rw[z,g];exact r9 _
end
end LV
set_option maxHeartbeats 1000000
namespace K48
open PySem L2 LV PyProof.Rows
def fT:PyData->Option PyData
 | .list l=>some (.tuple l)
 | _=>none
theorem dX0 (L:AA):(L.map lN).filterMap fT=L.map tN:=by
 induction L with
 | nil=>rfl
 | cons l L e=>rw[Ac7,Ac7,<- e];rfl
def fR (F G:Nat->Nat)(m:Nat):PyData->Option PyData
 | .int p=>some (lN ((TT.gst F G m).row p.toNat))
 | _=>none
theorem dV9 (F G:Nat->Nat)(m n:Nat):(P6 0 n).filterMap (fR F G m)=((List.range n).map ((TT.gst F G m).row)).map lN:=by
 unfold P6;rw[Dm,Ae2,<- List.filterMap_eq_map]
 congr 1
 funext x
 show some (lN ((TT.gst F G m).row ((0:Int)+(x:Int)).toNat))=some (lN ((TT.gst F G m).row x))
 rw[show((0:Int)+(x:Int)).toNat=x by lia]
def toM:PyData->Nat
 | .int i=>i.toNat
 | _=>0
def fB:PyData->Option PyData
 | .list l=>some (tN (TT.G4 (l.map toM)))
 | _=>none
theorem dN2 (l:AB):fB (lN l)=some (tN (TT.G4 l)):=by
 show some (tN (TT.G4 ((nI l).map toM)))=_
 rw[show(nI l).map toM=l by unfold nI;rw[Ae2];exact List.map_id'' (λx=>by show((x:Int)).toNat=x;lia) l]
theorem dQ4 (L:AA):(L.map lN).filterMap fB=(L.map TT.G4).map tN:=by
 induction L with
 | nil=>rfl
 | cons l L e=>rw[Ac7,Ac7,Ac7,<- e,Ak,dN2]
theorem eA4 (m:Nat):P6 3 m=nI ((List.range m).map (· + 3)):=by
 unfold P6 nI;rw[Ae2];exact Ax λk _=>by show PyData.int (3+(k:Int))=.int ((k+3:Nat):Int);rw[show(3+(k:Int))=((k+3:Nat):Int) by lia]
theorem dR8 (m:Nat):bQ6 ((m:Int)+2) m=nI ((List.range m).map (· + 3)).reverse:=by
 refine List.ext_getElem? λi=>?_
 unfold bQ6 nI;rw[Aa9,Aa9];by_cases h:i<m
 .rw[List.getElem?_range h,List.getElem?_reverse (by simpa using h),Aa9]
  simp only[Aa3,Bo];rw[List.getElem?_range (by lia)]
  show some (PyData.int ((m:Int)+2-(i:Int)))=some (PyData.int ((m-1-i+3:Nat):Int))
  rw[show((m:Int)+2-(i:Int))=((m-1-i+3:Nat):Int) by lia]
 .rw[Ad6 (by simp;lia),Ad6 (by simp;lia)];rfl
def eB2 (F G:Nat->Nat)(m:Nat):PyData:=.tuple ((((List.range (m+3)).map ((TT.gst F G m).row)).map TT.G4).map tN)
def dN3 (ds:AD)(d:PyData):Prop:=∃(F G:Nat->Nat) (m:Nat),m<=7/\TT.Rws F G m/\ds=[.str (sb (TT.D3 F m)),.str (sb (TT.D3 G m))]/\d=.tuple [eB2 F G m,bV9 F G m]
section
variable {P:Program}{w:World}{K:Frag}{mg:Str->Option Value}{base:Heap}{a:Ad}
theorem eE8 (T:Tx K mg a):FnOk P w K mg base CX0 4 a.aR6 a.aR0 ["first", "second"] (spV K dN3):=by
 have g:FnOk P w K mg base CX0 3 _ _ _ _:=eC7 T
 have X:FnOk P w K mg base CX0 3 _ _ _ _:=eE0 T
 have Y:FnOk P w K mg base CX0 2 _ _ _ _:=eG0 T
 have y:FnOk P w K mg base CX0 2 _ _ _ _:=cM1 T
 refine T.bC4.ok sc_of_rows (T5 λds d ⟨_,_,_,_,_,e,_⟩=>by rw[e];rfl) (λcdv A B s H vs Q E J h=>?_)
 obtain⟨ds,S,d,hS,r,⟨F,G,m,D,R,rfl,rfl⟩,q⟩:=h;obtain⟨z,M⟩:=T.E5;refine⟨_,(A6 (C0 (i:=2) sc_of_rows.nd rfl (Or.inl rfl) (C6 g (J.mono (by decide)) rfl T.aT1 T.aC6.kp T.aS9 .nil E2 (A0 (pv 0) (A0 (pv 1) A4))))
   (A6 (N5 (B9 cA7 (pv 2) aB8 (C7 _)) aQ3 H9)
   (A6 (C0 (i:=3) sc_of_rows.nd rfl (Or.inl rfl) (C6 X (J.mono (by decide)) rfl T.dH9 T.cB1.kp T.dH8 .nil E2 (A0 (pv 0) (A0 (pv 1) A4))))
   (A6 (C0 (i:=4) sc_of_rows.nd rfl (Or.inr rfl) (K3 (bY6 K) (by rfl) T.P1 boot_tuple (A0 (X1 (T:=["ends"]) (N':=["ends"]) (is:=[]) rfl (.of rfl rfl rfl (by exact trivial) rfl rfl rfl (by exact trivial)) (P3 (R8 (pv 3) rfl)) (O8 (by decide)) λ_ _ _ _=>⟨(C5 (i:=0) (by decide +kernel:(["ends"]:AG).Nodup) rfl (Or.inl rfl)),aD6,(K3 (bY6 K) (by rfl) T.P1 boot_tuple (A0 (pv 0) A4))⟩) A4)))
   (A6 (C0 (i:=5) sc_of_rows.nd rfl (Or.inl rfl) (B2 G0 (M6 (v:=.int 3) rfl M ⟨z,rfl⟩) (B8 (T9 K) (by rfl) T.F9 Ah (A0 (pv 4) A4))))
   (A6 (C0 (i:=6) sc_of_rows.nd rfl (Or.inr rfl) (O1 (A0 (K3 (aG5 rfl) (by rfl) T.aD8 boot_list (A0 (dD7 rfl T.J0 (A0 (M6 (v:=.int 3) rfl M ⟨z,rfl⟩) (A0 (pv 5) A4))) A4)) (A0 (cU0 rfl rfl T.aD8 rfl T.J0 (A0 (B2 L4 (pv 5) A7) (A0 (B2 L4 (M6 (v:=.int 3) rfl M ⟨z,rfl⟩) A7) (A0 (aH3 m5 A7) A4)))) (A0 (R8 (pv 3) rfl) A4)))))
   (A6 (u9 (i:=7) sc_of_rows.nd rfl rfl (T:=["place"]) (N':=["place", "outs", "coming"]) (is:=[4,6]) rfl (.of rfl rfl rfl (by exact⟨rfl,rfl,trivial⟩) rfl rfl rfl (by exact⟨⟨_,rfl,by first | exact .inl rfl | exact .inr rfl,by first | exact .inl rfl | exact .inr rfl⟩,⟨_,rfl,by first | exact .inl rfl | exact .inr rfl,by first | exact .inl rfl | exact .inr rfl⟩,trivial⟩)) (G8 rfl T.J0 (A0 (pv 5) A4)) (O8 (by decide)) λ_ _ _ _=>⟨(C5 (i:=0) (by decide +kernel:(["place", "outs", "coming"]:AG).Nodup) rfl (Or.inl rfl)),aD6,(C6 Y (J.mono (by decide)) rfl T.cJ1 T.bC8.kp T.cL0 .nil E2 (A0 (pv 1) (A0 (pv 2) (A0 (pv 0) A4))))⟩)
   (B0 (D2 (O1 (A0 (K3 (bY6 K) (by rfl) T.P1 boot_tuple (A0 (X1 (T:=["turn"]) (N':=["turn"]) (is:=[]) rfl (.of rfl rfl rfl (by exact trivial) rfl rfl rfl (by exact trivial)) (P3 (pv 7)) (O8 (by decide)) λ_ _ _ _=>⟨(C5 (i:=0) (by decide +kernel:(["turn"]:AG).Nodup) rfl (Or.inl rfl)),aD6,(C6 y (J.mono (by decide)) rfl T.aI9 T.Y9.kp T.aI0 .nil E2 (A0 (K3 (bY6 K) (by rfl) T.P1 boot_tuple (A0 (pv 0) A4)) A4))⟩) A4)) (A0 (pv 4) A4)))))))))))),K1 hS r ?_ q⟩
 have I:=TT.E1 R m (Aa7 _)
 have hk:=I.k
 refine B4 (F8 (d:=.none) (E6 (A5 (A1 rfl) (A5 (A1 rfl) B1)) ⟨F,G,m,D,R,rfl,rfl⟩) ?_);refine B4 (V4 (D1 (cX4 (d:=.none) (A1 rfl))) (λh=>absurd (show false=true from h) (by decide)) (λ_=>M2 ?_))
 refine B4 (F8 (d:=grD a.C4 F G m) (E6 (A5 (A1 rfl) (A5 (A1 rfl) B1)) ⟨F,G,m,D,R,rfl,rfl⟩) ?_);have ee:(List.range m).map (λj=>lN (o7 F G m j))=((List.range m).map (o7 F G m)).map lN:=by rw[Ae2];rfl
 have iT:∀L:AA,K9 (L.map tN)=true:=λL=>aE3 bT9 L
 refine B4 (F8 (d:=bV9 F G m) (e7 (A5 (EF.e' (EF.to (P2 (m:=true) fT (U0 (ds:=((List.range m).map (o7 F G m)).map lN) (cS8 (A1 (d:=grD a.C4 F G m) rfl) T.D6 T.O4 (by rw[<- ee];rfl))) (by simp;unfold sizeLine;lia) λd U=>?_) (dX0 _))) B1) (iT _)) ?_)
 .obtain⟨l,_,rfl⟩:=Aa8.mp U;exact⟨_,D5,bS4,e7 (A5 (A1 rfl) B1) (F5 l)⟩
 have hl:((((List.range m).map (o7 F G m)).map tN).length:Int)=(m:Int):=by simp
 refine B4 (F8 (d:=.int ((m:Int)+3)) (EI.to (L9 A9 (O7 (ds:=((List.range m).map (o7 F G m)).map tN) (A5 (A1 rfl) B1))) (by rw[hl];lia)) ?_)
 refine B4 (F8 (d:=cmD F G m) (o9 (A5 (EF.e' (EF.to (dV6 (i:=3) (j:=(m:Int)+3) (A5 A9 (A5 (A1 rfl) B1)) (by lia)) (by rw[show((m:Int)+3-3).toNat=m by lia];exact eA4 m))) (A5 (EF.e' (EF.to (cX7 (i:=(m:Int)+2) (j:=2) (A5 (EI.to (L9 (A1 rfl) A9) (by lia)) (A5 (EI.to (L9 A9 A9) (by decide)) (A5 (EI.to (aS2 A9) (by decide)) B1))) (by lia)) (by rw[show((m:Int)+2-2).toNat=m by lia];exact dR8 m))) (A5 (cS8 (A1 (d:=grD a.C4 F G m) rfl) T.D6 T.Y2 rfl) B1)))) ?_)
 refine B4 (K2 (ds:=((List.range (m+3)).map ((TT.gst F G m).row)).map lN) (EF.to (P2 (m:=true) (fR F G m) (Q4 (j:=(m:Int)+3) (A5 (A1 rfl) B1) (by lia) (by lia)) (by rw[U9];unfold sizeLine;lia) λd U=>?_) (by rw[show((m:Int)+3).toNat=m+3 by lia];exact dV9 F G m (m+3))) ?_)
 .obtain⟨j,hj⟩:=List.mem_iff_getElem?.mp U;obtain⟨rfl,hj2⟩:=Q6 hj;exact⟨_,D5,bS4,EF.e' (S4 (A5 (A1 rfl) (A5 (A1 rfl) (A5 (A1 rfl) B1))) ⟨F,G,m,j,D,R,by lia,rfl,rfl⟩)⟩
 refine bE4 (i:=7) rfl ?_;refine M8 (o9 (A5 (e7 (A5 (EF.e' (EF.to (P2 (m:=true) fB (U0 (ds:=((List.range (m+3)).map ((TT.gst F G m).row)).map lN) (A1 rfl)) (by simp;unfold sizeLine;lia) λd U=>?_) (dQ4 _))) B1) (iT _)) (A5 (A1 rfl) B1))) rfl
 obtain⟨l,N,rfl⟩:=Aa8.mp U;obtain⟨p,hp,rfl⟩:=Aa8.mp N;have hp:=Ab5.mp hp;have ne:(TT.gst F G m).row p≠[]:=by
  rcases (show p=0\/p=1\/p=2\/3<=p by lia) with rfl | rfl | rfl | h3
  .rw[TT.aC5];simp
  .rw[TT.aK6];simp
  .obtain⟨pp,ep⟩:=I.inv.pe;rw[TT.Y4,ep];simp
  .rw[TT.M7 h3 (by lia)];simp
 have ll:=TT.aM8 I.inv p
 rw[dN2];exact⟨_,D5,bS4,E6 (A5 (e7 (A5 (A1 rfl) B1) (F5 _)) B1) ⟨(TT.gst F G m).row p,ne,by lia,rfl,rfl⟩⟩
end
end K48
namespace SRT
open PySem PyProof.Rows
structure PSt where
 a:Array Nat
 p:Array (Nat×Nat×Nat)
 g:Nat
abbrev PM:=StateT PSt Option
section
variable {M:Model}{A:Around}{E:Dy}{s:Shared}{kd:SortKind}{f:Nat->Keyed}{n:Nat}{o:Nat->Nat->Bool}{α β γ δ:Type}
def aD1 (kd:SortKind)(f:Nat->Keyed)(x:PSt):SortSt:=SortSt.mk' kd (x.a.map f) x.p x.g none
def Lf (M:Model)(A:Around)(E:Dy)(s:Shared)(kd:SortKind)(f:Nat->Keyed)(F:β->α)(m:StateT SortSt Sem α)(p:PM β):Prop:=
 ∀x b x',p x=some (b,x')->∀Q:α->SortSt->Prop,Q (F b) (aD1 kd f x')->wpS M A E s m Q (aD1 kd f x)
theorem C1 {F:β->α}{b:β}{a:α}(h:a=F b):Lf M A E s kd f F (pure a) (pure b:PM β):=λx y z e Q q=>by
 have e:some (b,x)=some (y,z):=e
 cases e
 exact wpS_pure (by rw[h];exact q)
theorem B5 {F:β->α}{G:δ->γ}{m:StateT SortSt Sem α}{k:α->StateT SortSt Sem γ}{p:PM β}{q:β->PM δ}(h1:Lf M A E s kd f F m p)(z:∀b,Lf M A E s kd f G (k (F b)) (q b)):Lf M A E s kd f G (m >>= k) (p >>= q):=λx d y e Q g=>by
 have e:(p x).bind (λr=>q r.1 r.2)=some (d,y):=e
 cases hp:p x with
 | none=>rw[hp]at e;cases e
 | some r=>
  rw[hp]at e;exact wpS_bind (h1 x r.1 r.2 hp _ (z r.1 r.2 d y e Q g))
theorem K6 {F:β->α}{m:StateT SortSt Sem α}:Lf M A E s kd f F m (λ_=>none):=λx b y e=>by cases e
theorem aD7:Lf M A E s kd f (aD1 kd f) get (λx=>some (x,x)):=λx b y e Q q=>by
 cases e
 exact wpS_get q
theorem aW4 {h:SortSt->SortSt}{g:PSt->PSt}(e:∀x,h (aD1 kd f x)=aD1 kd f (g x)):Lf M A E s kd f id (modify h:StateT SortSt Sem PUnit) (λx=>some (⟨⟩,g x)):=λx b y e' Q q=>by
 cases e'
 exact wpS_modify (by rw[e];exact q)
theorem G7 {F:β->α}{c:Prop}[Decidable c]{m m':StateT SortSt Sem α}{p p':PM β}(h:c->Lf M A E s kd f F m p)(h':¬c->Lf M A E s kd f F m' p'):Lf M A E s kd f F (if c then m else m') (if c then p else p'):=by
 by_cases z:c
 .rw[Ae z,Ae z];exact h z
 .rw[Ac z,Ac z];exact h' z
theorem bF3 {prog:Program}{w:World}{r:String}:Lf (model prog w) A E s kd f id (liftM (rule r:Sem Unit):StateT SortSt Sem Unit) (pure ()):=λx b y e Q q=>by
 have e:some ((),x)=some (b,y):=e
 cases e
 exact wpS_lift (wpAny_rule ⟨rfl,q⟩)
def stF (F:β->α):ForInStep β->ForInStep α
 | .done c=>.done (F c)
 | .yield c=>.yield (F c)
def Z3:AB->β->(Nat->β->PM (ForInStep β))->PM β
 | [],c,_=>pure c
 | i::l,c,g=>g i c >>= λr=>match r with
  | .done c=>pure c
  | .yield c=>Z3 l c g
theorem cA9 {F:β->α}{b:Nat->α->StateT SortSt Sem (ForInStep α)}{g:Nat->β->PM (ForInStep β)}(h:∀i c,Lf M A E s kd f (stF F) (b i (F c)) (g i c)):∀(l:AB) (c:β),Lf M A E s kd f F (forIn l (F c) b) (Z3 l c g)
 | [],c=>by rw[List.forIn_nil];exact C1 rfl
 | i::l,c=>by
  rw[List.forIn_cons];refine B5 (h i c) λr=>?_
  cases r with
  | done c=>exact C1 rfl
  | yield c=>exact cA9 h l c
theorem U6 {F:β->α}{lo hi:Nat}{c:β}{c':α}{b:Nat->α->StateT SortSt Sem (ForInStep α)}{g:Nat->β->PM (ForInStep β)}(y:c'=F c)(h:∀i c,Lf M A E s kd f (stF F) (b i (F c)) (g i c)):Lf M A E s kd f F (forIn [lo:hi] c' b) (Z3 (List.range' lo (hi-lo)) c g):=by
 rw[Std.Legacy.Range.forIn_eq_forIn_range',y];have e:([lo:hi]:Std.Legacy.Range).size=hi-lo:=by simp[Std.Legacy.Range.size]
 show Lf M A E s kd f F (forIn (List.range' lo ([lo:hi]:Std.Legacy.Range).size 1) (F c) b) _
 rw[e];exact cA9 h _ c
def Cmp (M:Model)(A:Around)(s:Shared)(kd:SortKind)(f:Nat->Keyed)(n:Nat)(o:Nat->Nat->Bool):Prop:=∀i j,i<n->j<n->∀(Q:Bool->Shared->Prop) (E:Dy),Q (o i j) s->wpAny M A (keyLt' kd (f i).1 (f j).1) Q E s
def plt (n:Nat)(o:Nat->Nat->Bool)(i j:Nat):PM (Option Bool):=λx=>if i<n/\j<n then some (some (o i j),x) else none
theorem cG7 (C:Cmp M A s kd f n o)(i j:Nat):Lf M A E s kd f id (lt' (f i) (f j)) (plt n o i j):=λx b y e Q q=>by
 unfold plt at e;by_cases h:i<n/\j<n
 .rw[Ae h]at e;cases e;rw[lt'_eq];refine wpS_bind (wpS_get ?_);refine wpS_bind (wpS_lift (wpAny_attempt (C i j h.1 h.2 _ _ ⟨rfl,?_⟩)));exact wpS_pure q
 .rw[Ac h]at e;cases e
def pel (arr:Array Nat)(i:Nat):PM Nat:=λx=>match arr[i]? with
 | some k=>some (k,x)
 | none=>none
theorem i4 {arr:Array Nat}{arr':Array Keyed}(h:arr'=arr.map f)(i:Nat):Lf M A E s kd f f (elem' arr' i) (pel arr i):=λx b z e Q q=>by
 subst h;unfold pel at e;rw[elem'_eq,Array.getElem?_map];cases y:arr[i]? with
 | none=>rw[y]at e;cases e
 | some k=>
  rw[y]at e;cases e;exact wpS_pure q
def bS3 (n:Nat)(o:Nat->Nat->Bool)(i j:Nat):PM (Option Bool):=do
 let x <- (λx=>some (x,x):PM PSt)
 let k <- pel x.a i
 let l <- pel x.a j
 plt n o k l
theorem bF6 (C:Cmp M A s kd f n o)(i j:Nat):Lf M A E s kd f id (ltAt' i j) (bS3 n o i j):=by
 rw[ltAt'_eq];unfold bS3;exact B5 aD7 λx=>B5 (i4 rfl i) λk=>B5 (i4 rfl j) λl=>cG7 C k l
theorem cR9 (a:Array Nat)(i j:Nat):(a.map f).swapIfInBounds i j=(a.swapIfInBounds i j).map f:=by
 rw[Array.swapIfInBounds_def,Array.swapIfInBounds_def];by_cases hi:i<a.size
 .rw[dif_pos (by simpa using hi),dif_pos hi]
  by_cases y:j<a.size
  .rw[dif_pos (by simpa using y),dif_pos y]
   have e:=getElem?_swapIB (xs:=a.map f) (i:=i) (j:=j) (by simpa using hi) (by simpa using y)
   have e':=getElem?_swapIB (xs:=a) hi y
   rw[Array.swapIfInBounds_def,dif_pos (by simpa using hi),dif_pos (by simpa using y)]at e
   rw[Array.swapIfInBounds_def,dif_pos hi,dif_pos y]at e';refine Array.ext_getElem? λk=>?_
   simp only[e,Array.getElem?_map,e'];split
   .rfl
   .split <;> rfl
  .rw[dif_neg (by simpa using y),dif_neg y]
 .rw[dif_neg (by simpa using hi),dif_neg hi]
theorem bQ4 {κ:Type}(p q:κ->Nat):∀(l:List κ) (a:Array Nat),l.foldl (λa k=>a.swapIfInBounds (p k) (q k)) (a.map f)=(l.foldl (λa k=>a.swapIfInBounds (p k) (q k)) a).map f
 | [],a=>rfl
 | k::l,a=>by rw[List.foldl_cons,List.foldl_cons,cR9,bQ4 p q l]
def dN9 (src dst:Nat):PM PUnit:=λx=>some (⟨⟩,{x with a:=bubble x.a src (src-dst)})
theorem dH4 (i j:Nat):Lf M A E s kd f id (moveDown' i j) (dN9 i j):=by
 rw[moveDown'_eq];exact aW4 λx=>by
  show SortSt.mk' kd (bubble (x.a.map f) i (i-j)) x.p x.g none=SortSt.mk' kd ((bubble x.a i (i-j)).map f) x.p x.g none
  unfold bubble;rw[bQ4]
def dA7:PM Unit:=pure ()
def pup (n:Nat)(o:Nat->Nat->Bool)(lo:Nat)(_:Nat)(c:Option (Option Nat)×Nat):PM (ForInStep (Option (Option Nat)×Nat)):=bS3 n o (lo+c.2) (lo+c.2-1) >>= λr=>match r with
 | some sm=>if sm=true then pure (.done (none,c.2)) else pure (.yield (none,c.2+1))
 | none=>λ_=>none
def bW2 (n:Nat)(o:Nat->Nat->Bool)(lo nrem:Nat):PM (Option Nat):=
 Z3 (List.range' 1 (nrem-1)) (none,1) (pup n o lo) >>= λc=>match c with
 | (some _,_)=>λ_=>none
 | (none,k)=>if(k==nrem)=true then pure (some k) else if k>1 then bS3 n o lo (lo+k-1) >>= λr=>match r with
   | some true=>pure (some k)
   | _=>λ_=>none
  else λ_=>none
theorem cO2 {prog:Program}{w:World}(C:Cmp (model prog w) A s kd f n o)(lo e:Nat):Lf (model prog w) A E s kd f id (countRun' lo e) (bW2 n o lo e):=by
 rw[countRun'_eq];unfold bW2;refine B5 (F:=id) (U6 rfl λi c=>?_) λc=>?_
 .unfold pup;refine B5 (F:=id) (bF6 C _ _) λr=>?_
  cases r with
  | none=>exact K6
  | some y=>exact G7 (λ_=>C1 rfl) (λ_=>C1 rfl)
 .obtain⟨q,k⟩:=c;cases q with
  | some q=>exact K6
  | none=>
   refine G7 (λ_=>C1 rfl) λ_=>?_
   refine G7 (λ_=>?_) λ_=>K6
   refine B5 (F:=id) (bF6 C _ _) λr=>?_
   match r with
   | some true=>exact C1 rfl
   | some false=>exact K6
   | none=>exact K6
def eF4 (n:Nat)(o:Nat->Nat->Bool)(lo k:Nat)(_:Nat)(c:Option Bool×Nat×Nat):PM (ForInStep (Option Bool×Nat×Nat)):=
 if c.2.1≥c.2.2 then pure (.done (none,c.2.1,c.2.2)) else bS3 n o (lo+k) (lo+(c.2.1+c.2.2) / 2) >>= λr=>match r with
 | some less=>if less=true then pure (.yield (none,c.2.1,(c.2.1+c.2.2) / 2)) else pure (.yield (none,(c.2.1+c.2.2) / 2+1,c.2.2))
 | none=>λ_=>none
def dL8 (n:Nat)(o:Nat->Nat->Bool)(lo:Nat)(k:Nat)(_:Option Bool×Unit):PM (ForInStep (Option Bool×Unit)):=
 Z3 (List.range' 0 (k-0)) (none,0,k) (eF4 n o lo k) >>= λc=>match c with
 | (some _,_)=>λ_=>none
 | (none,l,_)=>dN9 (lo+k) (lo+l) >>= λ_=>pure (.yield (none,()))
def dP3 (n:Nat)(o:Nat->Nat->Bool)(lo m ok:Nat):PM Bool:=
 Z3 (List.range' (max ok 1) (m-max ok 1)) (none,()) (dL8 n o lo) >>= λc=>match c with
 | (some _,_)=>λ_=>none
 | (none,_)=>pure true
theorem dR0 (C:Cmp M A s kd f n o)(lo m ok:Nat):Lf M A E s kd f id (binarySort' lo m ok) (dP3 n o lo m ok):=by
 rw[binarySort'_eq];unfold dP3;refine B5 (F:=id) (U6 rfl λk c=>?_) λc=>?_
 .unfold dL8;refine B5 (F:=id) (U6 rfl λi c=>?_) λc=>?_
  .obtain⟨q,l,r⟩:=c;unfold eF4;refine G7 (λ_=>C1 rfl) λ_=>?_
   refine B5 (F:=id) (bF6 C _ _) λr=>?_
   cases r with
   | none=>exact K6
   | some e=>exact G7 (λ_=>C1 rfl) λ_=>C1 rfl
  .obtain⟨q,l,r⟩:=c;cases q with
   | some q=>exact K6
   | none=>exact B5 (F:=id) (dH4 _ _) λ_=>C1 rfl
 .obtain⟨q,u⟩:=c;cases q with
  | some q=>exact K6
  | none=>exact C1 rfl
def aB0:Bool->Keyed->Array Keyed->Nat->Nat->Nat->StateT SortSt Sem (Option Nat):=sortPriv% PySem.Builtin.gallop
theorem bY8 (left:Bool)(z:Keyed)(r:Array Keyed)(y n e:Nat):aB0 left z r y n e=(do
 let beyond (i:Nat):StateT SortSt Sem (Option Bool):=do
  let x <- elem' r (y+i)
  if left then lt' x z else return (<- lt' z x).map (!·)
 let mut lastofs:=0
 let mut ofs:=1
 let mut lo:=0
 let mut hi:=0
 let some right <- beyond e | return none
 if right then
  let maxofs:=n-e
  for _ in [0:n] do
   if ofs≥maxofs then break
   let some more <- beyond (e+ofs) | return none
   if !more then break
   lastofs:=ofs
   ofs:=2*ofs+1
  lo:=e+lastofs+1
  hi:=e+min ofs maxofs
 else
  let maxofs:=e+1
  for _ in [0:n] do
   if ofs≥maxofs then break
   let some found <- beyond (e-ofs) | return none
   if found then break
   lastofs:=ofs
   ofs:=2*ofs+1
  lo:=e+1-min ofs maxofs
  hi:=e-lastofs
 for _ in [0:n] do
  if lo≥hi then break
  let m:=lo+(hi-lo) / 2
  let some more <- beyond m | return none
  if more then lo:=m+1 else hi:=m
 return some hi):=rfl
def cP0 (n:Nat)(o:Nat->Nat->Bool)(left:Bool)(key:Nat)(arr:Array Nat)(base i:Nat):PM (Option Bool):=
 pel arr (base+i) >>= λx=>if left=true then plt n o x key else plt n o key x >>= λr=>pure (r.map (!·))
theorem aZ8 (C:Cmp M A s kd f n o)(left:Bool)(y:Nat)(z:Array Nat){arr':Array Keyed}(h:arr'=z.map f)(e i:Nat):Lf M A E s kd f id (do
  let x <- elem' arr' (e+i)
  if left then lt' x (f y) else return (<- lt' (f y) x).map (!·)) (cP0 n o left y z e i):=
 B5 (i4 h _) λx=>G7 (λ_=>cG7 C _ _) λ_=>B5 (F:=id) (cG7 C _ _) λr=>C1 rfl
def pg1 (n:Nat)(o:Nat->Nat->Bool)(left:Bool)(key:Nat)(arr:Array Nat)(base hint mx:Nat)(_:Nat)(c:Option (Option Nat)×Nat×Nat):PM (ForInStep (Option (Option Nat)×Nat×Nat)):=
 if c.2.2≥mx then pure (.done (none,c.2.1,c.2.2)) else cP0 n o left key arr base (hint+c.2.2) >>= λr=>match r with
 | some more=>if(!more)=true then pure (.done (none,c.2.1,c.2.2)) else pure (.yield (none,c.2.2,2*c.2.2+1))
 | none=>λ_=>none
def pg2 (n:Nat)(o:Nat->Nat->Bool)(left:Bool)(key:Nat)(arr:Array Nat)(base hint mx:Nat)(_:Nat)(c:Option (Option Nat)×Nat×Nat):PM (ForInStep (Option (Option Nat)×Nat×Nat)):=
 if c.2.2≥mx then pure (.done (none,c.2.1,c.2.2)) else cP0 n o left key arr base (hint-c.2.2) >>= λr=>match r with
 | some found=>if found=true then pure (.done (none,c.2.1,c.2.2)) else pure (.yield (none,c.2.2,2*c.2.2+1))
 | none=>λ_=>none
def pg3 (n:Nat)(o:Nat->Nat->Bool)(left:Bool)(key:Nat)(arr:Array Nat)(base:Nat)(_:Nat)(c:Option (Option Nat)×Nat×Nat):PM (ForInStep (Option (Option Nat)×Nat×Nat)):=
 if c.2.1≥c.2.2 then pure (.done (none,c.2.1,c.2.2)) else cP0 n o left key arr base (c.2.1+(c.2.2-c.2.1) / 2) >>= λr=>match r with
 | some more=>if more=true then pure (.yield (none,c.2.1+(c.2.2-c.2.1) / 2+1,c.2.2)) else pure (.yield (none,c.2.1,c.2.1+(c.2.2-c.2.1) / 2))
 | none=>λ_=>none
def pgE (n:Nat)(o:Nat->Nat->Bool)(left:Bool)(key:Nat)(arr:Array Nat)(base m lo hi:Nat):PM (Option Nat):=
 Z3 (List.range' 0 (m-0)) (none,lo,hi) (pg3 n o left key arr base) >>= λc=>match c with
 | (some _,_)=>λ_=>none
 | (none,_,hi)=>pure (some hi)
def cI4 (n:Nat)(o:Nat->Nat->Bool)(left:Bool)(key:Nat)(arr:Array Nat)(base m hint:Nat):PM (Option Nat):=
 cP0 n o left key arr base hint >>= λr=>match r with
 | some right=>if right=true then Z3 (List.range' 0 (m-0)) (none,0,1) (pg1 n o left key arr base hint (m-hint)) >>= λc=>match c with
   | (some _,_)=>λ_=>none
   | (none,la,of)=>pgE n o left key arr base m (hint+la+1) (hint+min of (m-hint))
  else Z3 (List.range' 0 (m-0)) (none,0,1) (pg2 n o left key arr base hint (hint+1)) >>= λc=>match c with
   | (some _,_)=>λ_=>none
   | (none,la,of)=>pgE n o left key arr base m (hint+1-min of (hint+1)) (hint-la)
 | none=>λ_=>none
theorem bG8 (C:Cmp M A s kd f n o)(left:Bool)(z:Nat)(y:Array Nat){arr':Array Keyed}(h:arr'=y.map f)(e m k:Nat):Lf M A E s kd f id (aB0 left (f z) arr' e m k) (cI4 n o left z y e m k):=by
 rw[bY8];unfold cI4;refine B5 (F:=id) (aZ8 C left z y h e _) λr=>?_
 cases r with
 | none=>exact K6
 | some right=>
  refine G7 (λ_=>?_) λ_=>?_
  .refine B5 (F:=id) (U6 rfl λi c=>?_) λc=>?_
   .obtain⟨q,Y,of⟩:=c;unfold pg1;refine G7 (λ_=>C1 rfl) λ_=>B5 (F:=id) (aZ8 C left z y h e _) λr=>?_
    cases r with
    | none=>exact K6
    | some g=>exact G7 (λ_=>C1 rfl) λ_=>C1 rfl
   .obtain⟨q,Y,of⟩:=c;cases q with
    | some q=>exact K6
    | none=>
     unfold pgE;refine B5 (F:=id) (U6 rfl λi c=>?_) λc=>?_
     .obtain⟨q,lo,hi⟩:=c;unfold pg3;refine G7 (λ_=>C1 rfl) λ_=>B5 (F:=id) (aZ8 C left z y h e _) λr=>?_
      cases r with
      | none=>exact K6
      | some g=>exact G7 (λ_=>C1 rfl) λ_=>C1 rfl
     .obtain⟨q,lo,hi⟩:=c;cases q with
      | some q=>exact K6
      | none=>exact C1 rfl
  .refine B5 (F:=id) (U6 rfl λi c=>?_) λc=>?_
   .obtain⟨q,Y,of⟩:=c;unfold pg2;refine G7 (λ_=>C1 rfl) λ_=>B5 (F:=id) (aZ8 C left z y h e _) λr=>?_
    cases r with
    | none=>exact K6
    | some g=>exact G7 (λ_=>C1 rfl) λ_=>C1 rfl
   .obtain⟨q,Y,of⟩:=c;cases q with
    | some q=>exact K6
    | none=>
     unfold pgE;refine B5 (F:=id) (U6 rfl λi c=>?_) λc=>?_
     .obtain⟨q,lo,hi⟩:=c;unfold pg3;refine G7 (λ_=>C1 rfl) λ_=>B5 (F:=id) (aZ8 C left z y h e _) λr=>?_
      cases r with
      | none=>exact K6
      | some g=>exact G7 (λ_=>C1 rfl) λ_=>C1 rfl
     .obtain⟨q,lo,hi⟩:=c;cases q with
      | some q=>exact K6
      | none=>exact C1 rfl
def aV5:Array Keyed->Array Keyed->StateT SortSt Sem (Array Keyed):=sortPriv% PySem.Builtin.mergeLo
def U8:Nat->StateT SortSt Sem Unit:=sortPriv% PySem.Builtin.setMinGallop
theorem aO5 (g:Nat):U8 g=modify λs=>SortSt.mk' (kindOf s) (arrOf s) (pendingOf s) g (failedOf s):=rfl
theorem bS8 (a b:Array Keyed):aV5 a b=(do
 rule "list.sort.merge-lo"
 let total:=a.size+b.size
 let done (out:Array Keyed) (ia ib:Nat):=out++a.extract ia a.size++b.extract ib b.size
 let lastOfA (out:Array Keyed) (ia ib:Nat):=out++b.extract ib b.size++a.extract ia a.size
 let mut out:Array Keyed := #[<- elem' b 0]
 let mut ia:=0
 let mut ib:=1
 if ib==b.size then return done out ia ib
 if ia+1==a.size then return lastOfA out ia ib
 let mut minGallop:=gallopOf (<- get)
 for _ in [0:total] do
  let mut acount:=0
  let mut bcount:=0
  for _ in [0:total] do
   let some bWins <- lt' (<- elem' b ib) (<- elem' a ia) | return done out ia ib
   if bWins then
    out:=out.push (<- elem' b ib);ib:=ib+1;bcount:=bcount+1;acount:=0
    if ib==b.size then return done out ia ib
    if bcount≥minGallop then break
   else
    out:=out.push (<- elem' a ia);ia:=ia+1;acount:=acount+1;bcount:=0
    if ia+1==a.size then return lastOfA out ia ib
    if acount≥minGallop then break
  rule "list.sort.gallop"
  minGallop:=minGallop+1
  for _ in [0:total] do
   if minGallop>1 then minGallop:=minGallop-1
   U8 minGallop
   let some k <- aB0 false (<- elem' b ib) a ia (a.size-ia) 0 | return done out ia ib
   acount:=k
   if k>0 then
    out:=out++a.extract ia (ia+k);ia:=ia+k
    if ia+1==a.size then return lastOfA out ia ib
    if ia==a.size then return done out ia ib
   out:=out.push (<- elem' b ib);ib:=ib+1
   if ib==b.size then return done out ia ib
   let some k <- aB0 true (<- elem' a ia) b ib (b.size-ib) 0 | return done out ia ib
   bcount:=k
   if k>0 then
    out:=out++b.extract ib (ib+k);ib:=ib+k
    if ib==b.size then return done out ia ib
   out:=out.push (<- elem' a ia);ia:=ia+1
   if ia+1==a.size then return lastOfA out ia ib
   if acount<7&&bcount<7 then break
  minGallop:=minGallop+1
  U8 minGallop
 unsupported "internal:list.sort.merge-bound"):=rfl
def fD (a b out:Array Nat)(ia ib:Nat):Array Nat:=out++a.extract ia a.size++b.extract ib b.size
def fL (a b out:Array Nat)(ia ib:Nat):Array Nat:=out++b.extract ib b.size++a.extract ia a.size
theorem aZ5 (a b e:Array Nat)(y z:Nat):e.map f++(a.map f).extract y (a.map f).size++(b.map f).extract z (b.map f).size=(fD a b e y z).map f:=by
 unfold fD
 simp[Array.map_append,Array.map_extract]
theorem bF5 (a b e:Array Nat)(y z:Nat):e.map f++(b.map f).extract z (b.map f).size++(a.map f).extract y (a.map f).size=(fL a b e y z).map f:=by
 unfold fL
 simp[Array.map_append,Array.map_extract]
abbrev S1 (τ:Type):=Option (Array τ)×Array τ×Nat×Nat×Nat×Nat
abbrev S2 (τ:Type):=Option (Array τ)×Array τ×Nat×Nat×Nat×Nat×Nat
abbrev S3 (τ:Type):=Option (Array τ)×Array τ×Nat×Nat×Nat
def F1 (f:Nat->Keyed)(c:S1 Nat):S1 Keyed:=(c.1.map (·.map f),c.2.1.map f,c.2.2)
def F2 (f:Nat->Keyed)(c:S2 Nat):S2 Keyed:=(c.1.map (·.map f),c.2.1.map f,c.2.2)
def F3 (f:Nat->Keyed)(c:S3 Nat):S3 Keyed:=(c.1.map (·.map f),c.2.1.map f,c.2.2)
def pm1 (n:Nat)(o:Nat->Nat->Bool)(a b:Array Nat)(mg:Nat)(_:Nat)(c:S1 Nat):PM (ForInStep (S1 Nat)):=match c with
 | (_,out,ia,ib,ac,bc)=>pel b ib >>= λy=>pel a ia >>= λx=>plt n o y x >>= λr=>match r with
  | some bw=>if bw=true then pel b ib >>= λy=>
     if(ib+1==b.size)=true then pure (.done (some (fD a b (out.push y) ia (ib+1)),out.push y,ia,ib+1,0,bc+1))
     else if bc+1≥mg then pure (.done (none,out.push y,ia,ib+1,0,bc+1)) else pure (.yield (none,out.push y,ia,ib+1,0,bc+1))
    else pel a ia >>= λx=>
     if(ia+1+1==a.size)=true then pure (.done (some (fL a b (out.push x) (ia+1) ib),out.push x,ia+1,ib,ac+1,0))
     else if ac+1≥mg then pure (.done (none,out.push x,ia+1,ib,ac+1,0)) else pure (.yield (none,out.push x,ia+1,ib,ac+1,0))
  | none=>λ_=>none
theorem eH7 (C:Cmp M A s kd f n o)(a b:Array Nat)(k i:Nat)(c:S1 Nat):Lf M A E s kd f (stF (F1 f)) (do
   let y <- elem' (b.map f) (F1 f c).2.2.2.1
   let x <- elem' (a.map f) (F1 f c).2.2.1
   let r <- lt' y x
   match r with
   | some bw=>
     if bw=true then
      let y <- elem' (b.map f) (F1 f c).2.2.2.1
      (if((F1 f c).2.2.2.1+1==(b.map f).size)=true then pure (ForInStep.done (some ((F1 f c).2.1.push y++(a.map f).extract (F1 f c).2.2.1 (a.map f).size++(b.map f).extract ((F1 f c).2.2.2.1+1) (b.map f).size),(F1 f c).2.1.push y,(F1 f c).2.2.1,(F1 f c).2.2.2.1+1,0,(F1 f c).2.2.2.2.2+1)) else if(F1 f c).2.2.2.2.2+1≥k then pure (ForInStep.done (none,(F1 f c).2.1.push y,(F1 f c).2.2.1,(F1 f c).2.2.2.1+1,0,(F1 f c).2.2.2.2.2+1)) else pure (ForInStep.yield (none,(F1 f c).2.1.push y,(F1 f c).2.2.1,(F1 f c).2.2.2.1+1,0,(F1 f c).2.2.2.2.2+1)))
     else
      let x <- elem' (a.map f) (F1 f c).2.2.1
      (if((F1 f c).2.2.1+1+1==(a.map f).size)=true then pure (ForInStep.done (some ((F1 f c).2.1.push x++(b.map f).extract (F1 f c).2.2.2.1 (b.map f).size++(a.map f).extract ((F1 f c).2.2.1+1) (a.map f).size),(F1 f c).2.1.push x,(F1 f c).2.2.1+1,(F1 f c).2.2.2.1,(F1 f c).2.2.2.2.1+1,0)) else if(F1 f c).2.2.2.2.1+1≥k then pure (ForInStep.done (none,(F1 f c).2.1.push x,(F1 f c).2.2.1+1,(F1 f c).2.2.2.1,(F1 f c).2.2.2.2.1+1,0)) else pure (ForInStep.yield (none,(F1 f c).2.1.push x,(F1 f c).2.2.1+1,(F1 f c).2.2.2.1,(F1 f c).2.2.2.2.1+1,0)))
   | _=>pure (ForInStep.done (some ((F1 f c).2.1++(a.map f).extract (F1 f c).2.2.1 (a.map f).size++(b.map f).extract (F1 f c).2.2.2.1 (b.map f).size),(F1 f c).2.1,(F1 f c).2.2.1,(F1 f c).2.2.2.1,(F1 f c).2.2.2.2.1,(F1 f c).2.2.2.2.2))) (pm1 n o a b k i c):=by
 obtain⟨q,e,z,g,m,Y⟩:=c;unfold pm1;refine B5 (i4 rfl _) λy=>B5 (i4 rfl _) λx=>B5 (F:=id) (cG7 C _ _) λr=>?_
 cases r with
 | none=>exact K6
 | some bw=>
  refine G7 (λ_=>B5 (i4 rfl _) λy=>?_) λ_=>B5 (i4 rfl _) λx=>?_
  .show Lf M A E s kd f (stF (F1 f)) (if(g+1==(b.map f).size)=true then pure (ForInStep.done (some ((e.map f).push (f y)++(a.map f).extract z (a.map f).size++(b.map f).extract (g+1) (b.map f).size),(e.map f).push (f y),z,g+1,0,Y+1)) else if Y+1≥k then pure (ForInStep.done (none,(e.map f).push (f y),z,g+1,0,Y+1)) else pure (ForInStep.yield (none,(e.map f).push (f y),z,g+1,0,Y+1))) _
   rw[<- Array.map_push,aZ5,Array.size_map];exact G7 (λ_=>C1 rfl) λ_=>G7 (λ_=>C1 rfl) λ_=>C1 rfl
  .show Lf M A E s kd f (stF (F1 f)) (if(z+1+1==(a.map f).size)=true then pure (ForInStep.done (some ((e.map f).push (f x)++(b.map f).extract g (b.map f).size++(a.map f).extract (z+1) (a.map f).size),(e.map f).push (f x),z+1,g,m+1,0)) else if m+1≥k then pure (ForInStep.done (none,(e.map f).push (f x),z+1,g,m+1,0)) else pure (ForInStep.yield (none,(e.map f).push (f x),z+1,g,m+1,0))) _
   rw[<- Array.map_push,bF5,Array.size_map];exact G7 (λ_=>C1 rfl) λ_=>G7 (λ_=>C1 rfl) λ_=>C1 rfl
def pj2 (a b:Array Nat)(out:Array Nat)(ia ib mg ac bc:Nat):PM (ForInStep (S2 Nat)):=pel a ia >>= λx=>
 if(ia+1+1==a.size)=true then pure (.done (some (fL a b (out.push x) (ia+1) ib),out.push x,ia+1,ib,mg,ac,bc))
 else if(decide (ac<7)&&decide (bc<7))=true then pure (.done (none,out.push x,ia+1,ib,mg,ac,bc)) else pure (.yield (none,out.push x,ia+1,ib,mg,ac,bc))
theorem dO7 (a b g:Array Nat){out':Array Keyed}(ho:out'=g.map f)(e r k y z:Nat):Lf M A E s kd f (stF (F2 f)) (do
   let x <- elem' (a.map f) e
   (if(e+1+1==(a.map f).size)=true then pure (ForInStep.done (some (out'.push x++(b.map f).extract r (b.map f).size++(a.map f).extract (e+1) (a.map f).size),out'.push x,e+1,r,k,y,z)) else if(decide (y<7)&&decide (z<7))=true then pure (ForInStep.done (none,out'.push x,e+1,r,k,y,z)) else pure (ForInStep.yield (none,out'.push x,e+1,r,k,y,z)))) (pj2 a b g e r k y z):=by
 subst ho;refine B5 (i4 rfl _) λx=>?_
 rw[<- Array.map_push,bF5,Array.size_map];exact G7 (λ_=>C1 rfl) λ_=>G7 (λ_=>C1 rfl) λ_=>C1 rfl
def pj1 (n:Nat)(o:Nat->Nat->Bool)(a b:Array Nat)(out:Array Nat)(ia ib mg ac bc:Nat):PM (ForInStep (S2 Nat)):=pel b ib >>= λy=>
 if(ib+1==b.size)=true then pure (.done (some (fD a b (out.push y) ia (ib+1)),out.push y,ia,ib+1,mg,ac,bc))
 else pel a ia >>= λx=>cI4 n o true x b (ib+1) (b.size-(ib+1)) 0 >>= λr=>match r with
  | some k=>if k>0 then(if(ib+1+k==b.size)=true then pure (.done (some (fD a b (out.push y++b.extract (ib+1) (ib+1+k)) ia (ib+1+k)),out.push y++b.extract (ib+1) (ib+1+k),ia,ib+1+k,mg,ac,k)) else pj2 a b (out.push y++b.extract (ib+1) (ib+1+k)) ia (ib+1+k) mg ac k) else pj2 a b (out.push y) ia (ib+1) mg ac k
  | none=>λ_=>none
theorem e6 (x b:Array Nat)(i j:Nat):x.map f++(b.map f).extract i j=(x++b.extract i j).map f:=by simp[Array.map_append,Array.map_extract]
theorem dK5 (C:Cmp M A s kd f n o)(a b X:Array Nat){out':Array Keyed}(ho:out'=X.map f)(g z Y m U:Nat):Lf M A E s kd f (stF (F2 f)) (do
   let y <- elem' (b.map f) z
   if(z+1==(b.map f).size)=true then
    pure (ForInStep.done (some (out'.push y++(a.map f).extract g (a.map f).size++(b.map f).extract (z+1) (b.map f).size),out'.push y,g,z+1,Y,m,U))
   else
    let x <- elem' (a.map f) g
    let r <- aB0 true x (b.map f) (z+1) ((b.map f).size-(z+1)) 0
    match r with
    | some k=>
     if k>0 then
      (if(z+1+k==(b.map f).size)=true then pure (ForInStep.done (some (out'.push y++(b.map f).extract (z+1) (z+1+k)++(a.map f).extract g (a.map f).size++(b.map f).extract (z+1+k) (b.map f).size),out'.push y++(b.map f).extract (z+1) (z+1+k),g,z+1+k,Y,m,k)) else do
       let x <- elem' (a.map f) g
       (if(g+1+1==(a.map f).size)=true then pure (ForInStep.done (some ((out'.push y++(b.map f).extract (z+1) (z+1+k)).push x++(b.map f).extract (z+1+k) (b.map f).size++(a.map f).extract (g+1) (a.map f).size),(out'.push y++(b.map f).extract (z+1) (z+1+k)).push x,g+1,z+1+k,Y,m,k)) else if(decide (m<7)&&decide (k<7))=true then pure (ForInStep.done (none,(out'.push y++(b.map f).extract (z+1) (z+1+k)).push x,g+1,z+1+k,Y,m,k)) else pure (ForInStep.yield (none,(out'.push y++(b.map f).extract (z+1) (z+1+k)).push x,g+1,z+1+k,Y,m,k))))
     else
      let x <- elem' (a.map f) g
      (if(g+1+1==(a.map f).size)=true then pure (ForInStep.done (some ((out'.push y).push x++(b.map f).extract (z+1) (b.map f).size++(a.map f).extract (g+1) (a.map f).size),(out'.push y).push x,g+1,z+1,Y,m,k)) else if(decide (m<7)&&decide (k<7))=true then pure (ForInStep.done (none,(out'.push y).push x,g+1,z+1,Y,m,k)) else pure (ForInStep.yield (none,(out'.push y).push x,g+1,z+1,Y,m,k)))
    | _=>pure (ForInStep.done (some (out'.push y++(a.map f).extract g (a.map f).size++(b.map f).extract (z+1) (b.map f).size),out'.push y,g,z+1,Y,m,U))) (pj1 n o a b X g z Y m U):=by
 subst ho;refine B5 (i4 rfl _) λy=>?_
 rw[<- Array.map_push,aZ5];simp only[Array.size_map];refine G7 (λ_=>C1 rfl) λ_=>B5 (i4 rfl _) λx=>B5 (F:=id) (bG8 C true x b rfl _ _ _) λr=>?_
 cases r with
 | none=>exact K6
 | some k=>
  refine G7 (λ_=>?_) λ_=>?_
  .refine G7 (λ_=>C1 ?_) λ_=>?_
   .have e:=aZ5 (f:=f) a b (X.push y++b.extract (z+1) (z+1+k)) g (z+1+k)
    rw[<- e6]at e;simp only[Array.size_map]at e;show ForInStep.done _=ForInStep.done _;rw[e,e6];rfl
   .have h:=dO7 (M:=M) (A:=A) (E:=E) (s:=s) (kd:=kd) a b (X.push y++b.extract (z+1) (z+1+k)) (e6 (f:=f) _ _ _ _) g (z+1+k) Y m k
    simp only[Array.size_map]at h;exact h
  .have h:=dO7 (M:=M) (A:=A) (E:=E) (s:=s) (kd:=kd) a b (X.push y) (f:=f) rfl g (z+1) Y m k
   simp only[Array.size_map]at h;exact h
def cW9 (g:Nat):PM Unit:=λx=>some ((),{x with g:=g})
theorem cF6 (g:Nat):Lf M A E s kd f id (U8 g) (cW9 g):=by
 rw[aO5];exact aW4 (g:=λx=>{x with g:=g}) λx=>rfl
def pj0 (n:Nat)(o:Nat->Nat->Bool)(a b:Array Nat)(out:Array Nat)(ia ib mg bc:Nat):PM (ForInStep (S2 Nat)):=cW9 mg >>= λ_=>pel b ib >>= λy=>cI4 n o false y a ia (a.size-ia) 0 >>= λr=>match r with
  | some k=>if k>0 then(if(ia+k+1==a.size)=true then pure (.done (some (fL a b (out++a.extract ia (ia+k)) (ia+k) ib),out++a.extract ia (ia+k),ia+k,ib,mg,k,bc))
    else if(ia+k==a.size)=true then pure (.done (some (fD a b (out++a.extract ia (ia+k)) (ia+k) ib),out++a.extract ia (ia+k),ia+k,ib,mg,k,bc))
    else pj1 n o a b (out++a.extract ia (ia+k)) (ia+k) ib mg k bc) else pj1 n o a b out ia ib mg k bc
  | none=>λ_=>none
def pm2 (n:Nat)(o:Nat->Nat->Bool)(a b:Array Nat)(_:Nat)(c:S2 Nat):PM (ForInStep (S2 Nat)):=match c with
 | (_,out,ia,ib,mg,_,bc)=>if mg>1 then pj0 n o a b out ia ib (mg-1) bc else pj0 n o a b out ia ib mg bc
def pm3 (n:Nat)(o:Nat->Nat->Bool)(a b:Array Nat)(_:Nat)(c:S3 Nat):PM (ForInStep (S3 Nat)):=match c with
 | (_,out,ia,ib,mg)=>Z3 (List.range' 0 (a.size+b.size-0)) (none,out,ia,ib,0,0) (pm1 n o a b mg) >>= λc=>match c with
  | (some r,out,ia,ib,_,_)=>pure (.done (some r,out,ia,ib,mg))
  | (none,out,ia,ib,ac,bc)=>dA7 >>= λ_=>Z3 (List.range' 0 (a.size+b.size-0)) (none,out,ia,ib,mg+1,ac,bc) (pm2 n o a b) >>= λc=>match c with
   | (some r,out,ia,ib,mg,_,_)=>pure (.done (some r,out,ia,ib,mg))
   | (none,out,ia,ib,mg,_,_)=>cW9 (mg+1) >>= λ_=>pure (.yield (none,out,ia,ib,mg+1))
def dS4 (n:Nat)(o:Nat->Nat->Bool)(a b:Array Nat):PM (Array Nat):=dA7 >>= λ_=>pel b 0 >>= λy=>
 if(1==b.size)=true then pure (fD a b #[y] 0 1) else if(0+1==a.size)=true then pure (fL a b #[y] 0 1) else(λx=>some (x,x):PM PSt) >>= λx=>
  Z3 (List.range' 0 (a.size+b.size-0)) (none,#[y],0,1,x.g) (pm3 n o a b) >>= λc=>match c with
  | (some r,_)=>pure r
  | (none,_)=>λ_=>none
theorem dY5 {prog:Program}{w:World}(C:Cmp (model prog w) A s kd f n o)(a b:Array Nat):Lf (model prog w) A E s kd f (·.map f) (aV5 (a.map f) (b.map f)) (dS4 n o a b):=by
 rw[bS8];unfold dS4;refine B5 (F:=id) bF3 λ_=>?_
 dsimp only
 refine B5 (i4 rfl _) λy=>?_
 simp only[Array.size_map];refine G7 (λ_=>C1 ?_) λ_=>G7 (λ_=>C1 ?_) λ_=>B5 aD7 λx=>B5 (F:=F3 f) (U6 (show(none,#[f y],0,1,x.g)=F3 f (none,#[y],0,1,x.g) by simp[F3]) λi c=>?_) λc=>?_
 .have e:=aZ5 (f:=f) a b #[y] 0 1
  simp only[Array.size_map]at e;rw[<- e];simp
 .have e:=bF5 (f:=f) a b #[y] 0 1
  simp only[Array.size_map]at e;rw[<- e];simp
 .obtain⟨q,m,z,Y,X⟩:=c;unfold pm3;refine B5 (F:=F1 f) (U6 rfl λi c=>?_) λc=>?_
  .have h:=eH7 (E:=E) C a b X i c
   simp only[Array.size_map]at h;exact h
  .obtain⟨q,m,z,Y,U,J⟩:=c;cases q with
   | some r=>exact C1 rfl
   | none=>
    refine B5 (F:=id) bF3 λ_=>?_
    refine B5 (F:=F2 f) (U6 rfl λi c=>?_) λc=>?_
    .obtain⟨q,m,z,Y,X,U,J⟩:=c;unfold pm2;refine G7 (λ_=>?_) λ_=>?_
     all_goals
      refine B5 (F:=id) (cF6 _) λ_=>B5 (i4 rfl _) λy=>B5 (F:=id) (bG8 C false y a rfl _ _ _) λr=>?_
      cases r with
      | none=>exact K6
      | some k=>
       refine G7 (λ_=>G7 (λ_=>C1 ?_) λ_=>G7 (λ_=>C1 ?_) λ_=>?_) λ_=>?_
       .have e:=bF5 (f:=f) a b (m++a.extract z (z+k)) (z+k) Y
        rw[<- e6]at e;simp only[Array.size_map]at e;show ForInStep.done (some (m.map f++(a.map f).extract z (z+k)++(b.map f).extract Y b.size++(a.map f).extract (z+k) a.size),m.map f++(a.map f).extract z (z+k),_)=ForInStep.done _;rw[e,e6];rfl
       .have e:=aZ5 (f:=f) a b (m++a.extract z (z+k)) (z+k) Y
        rw[<- e6]at e;simp only[Array.size_map]at e;show ForInStep.done (some (m.map f++(a.map f).extract z (z+k)++(a.map f).extract (z+k) a.size++(b.map f).extract Y b.size),m.map f++(a.map f).extract z (z+k),_)=ForInStep.done _;rw[e,e6];rfl
       .have h:=dK5 (E:=E) C a b (m++a.extract z (z+k)) (e6 (f:=f) _ _ _ _) (z+k) Y
        simp only[Array.size_map]at h;exact h _ _ _
       .have h:=dK5 (E:=E) C a b m (f:=f) rfl z Y
        simp only[Array.size_map]at h;exact h _ _ _
    .obtain⟨q,m,z,Y,X,U,J⟩:=c;cases q with
     | some r=>exact C1 rfl
     | none=>exact B5 (F:=id) (cF6 _) λ_=>C1 rfl
 .obtain⟨q,c⟩:=c;cases q with
  | some r=>exact C1 rfl
  | none=>exact K6
def cY9:Array Keyed->Array Keyed->StateT SortSt Sem (Array Keyed):=sortPriv% PySem.Builtin.mergeHi
theorem bO1 (i:Nat):mergeAt' i=(do
 let s <- get
 let (some (sa,na,power),some (sb,nb,_)):=((pendingOf s)[i]?,(pendingOf s)[i+1]?) | unsupported "internal:list.sort.pending"
 set (setPending s (((pendingOf s).setIfInBounds i (sa,na+nb,power)).eraseIdxIfInBounds (i+1)))
 let some k <- aB0 false (<- elem' (arrOf s) sb) (arrOf s) sa na 0 | return false
 let (sa,na):=(sa+k,na-k)
 if na==0 then return true
 let some nb <- aB0 true (<- elem' (arrOf s) (sa+na-1)) (arrOf s) sb nb (nb-1) | return false
 if nb==0 then return true
 let x:=(arrOf s).extract sa sb
 let y:=(arrOf s).extract sb (sb+nb)
 let merged <- if na<=nb then aV5 x y else cY9 x y
 modify λs=>setArr s (merged.toList.zipIdx.foldl (λa (p,j)=>a.setIfInBounds (sa+j) p) (arrOf s))
 return (failedOf (<- get)).isNone):=rfl
theorem dU6 {y:SortSt}{x':PSt}(h:y=aD1 kd f x'):Lf M A E s kd f id (set y:StateT SortSt Sem PUnit) (λ_=>some (⟨⟩,x')):=λx b z e Q q=>by
 cases e
 subst h;unfold wpS;rw[StateT.run_set];exact Ab ⟨rfl,q⟩
theorem cF0 (e:Nat):∀(l:List (Nat×Nat)) (a:Array Nat),(l.map λx=>(f x.1,x.2)).foldl (λa (p,j)=>a.setIfInBounds (e+j) p) (a.map f)=(l.foldl (λa (p,j)=>a.setIfInBounds (e+j) p) a).map f
 | [],a=>rfl
 | x::l,a=>by
  rw[Ac7,List.foldl_cons,List.foldl_cons];show List.foldl _ ((a.map f).setIfInBounds (e+x.2) (f x.1)) _=_;rw[<- Array.map_setIfInBounds,cF0 e l]
def eD3 (sa:Nat)(m:Array Nat):PM PUnit:=λx=>some (⟨⟩,{x with a:=m.toList.zipIdx.foldl (λa (p,j)=>a.setIfInBounds (sa+j) p) x.a})
theorem dE8 (l:AB):∀k,(l.map f).zipIdx k=(l.zipIdx k).map λx=>(f x.1,x.2):=by
 induction l with
 | nil=>intro k;rfl
 | cons x l e=>intro k;rw[Ac7,List.zipIdx_cons,List.zipIdx_cons,Ac7,e]
theorem dR2 (e:Nat)(m:Array Nat):Lf M A E s kd f id (modify λs=>setArr s ((m.map f).toList.zipIdx.foldl (λa (p,j)=>a.setIfInBounds (e+j) p) (arrOf s)):StateT SortSt Sem PUnit) (eD3 e m):=
 aW4 λx=>by
  show SortSt.mk' kd _ x.p x.g none=SortSt.mk' kd _ x.p x.g none
  rw[Array.toList_map,dE8];show SortSt.mk' kd (List.foldl _ (x.a.map f) _) x.p x.g none=_;rw[cF0]
def dS2 (n:Nat)(o:Nat->Nat->Bool)(i:Nat):PM Bool:=(λx=>some (x,x):PM PSt) >>= λx=>match x.p[i]?,x.p[i+1]? with
 | some (sa,na,pw),some (sb,nb,_)=>(λ_=>some (⟨⟩,{x with p:=(x.p.setIfInBounds i (sa,na+nb,pw)).eraseIdxIfInBounds (i+1)}):PM PUnit) >>= λ_=>pel x.a sb >>= λy=>cI4 n o false y x.a sa na 0 >>= λr=>match r with
  | some k=>if(na-k==0)=true then pure true else pel x.a (sa+k+(na-k)-1) >>= λz=>cI4 n o true z x.a sb nb (nb-1) >>= λr=>match r with
   | some nb'=>if(nb'==0)=true then pure true else if na-k<=nb' then dS4 n o (x.a.extract (sa+k) sb) (x.a.extract sb (sb+nb')) >>= λm=>eD3 (sa+k) m >>= λ_=>(λx=>some (x,x):PM PSt) >>= λ_=>pure true else λ_=>none
   | none=>λ_=>none
  | none=>λ_=>none
 | _,_=>λ_=>none
theorem dT2 {prog:Program}{w:World}(C:Cmp (model prog w) A s kd f n o)(i:Nat):Lf (model prog w) A E s kd f id (mergeAt' i) (dS2 n o i):=by
 rw[bO1];unfold dS2;refine B5 aD7 λx=>?_
 show Lf (model prog w) A E s kd f id (match (x.p[i]?,x.p[i+1]?) with | (some (g,Y,power),some (sb,nb,_))=>_ | _=>_) _
 cases x.p[i]? with
 | none=>exact K6
 | some u=>
  obtain⟨g,Y,U⟩:=u;cases x.p[i+1]? with
  | none=>exact K6
  | some v=>
   obtain⟨sb,nb,X⟩:=v;refine B5 (F:=id) (dU6 rfl) λ_=>B5 (i4 rfl _) λy=>B5 (F:=id) (bG8 C false y x.a rfl _ _ _) λr=>?_
   cases r with
   | none=>exact K6
   | some k=>
    refine G7 (λ_=>C1 rfl) λ_=>B5 (i4 rfl _) λz=>B5 (F:=id) (bG8 C true z x.a rfl _ _ _) λr=>?_
    cases r with
    | none=>exact K6
    | some e=>
     refine G7 (λ_=>C1 rfl) λ_=>G7 (λ_=>B5 (F:=λa:Array Nat=>a.map f) ?_ λm=>B5 (F:=id) (dR2 _ m) λ_=>B5 aD7 λ_=>C1 rfl) λ_=>K6
     have h:=dY5 (E:=E) C (x.a.extract (g+k) sb) (x.a.extract sb (sb+e))
     rw[Array.map_extract,Array.map_extract]at h;exact h
def dU9 (lo k:Nat):PM (ForInStep (Option Unit×Nat)):=(λx=>some (⟨⟩,{x with p:=x.p.push (lo,k,0)}):PM PUnit) >>= λ_=>pure (.yield (none,lo+k))
def eH0 (_:Nat)(_:Option Unit×Unit):PM (ForInStep (Option Unit×Unit)):=(λx=>some (x,x):PM PSt) >>= λx=>match (if x.p.size>1 then x.p[x.p.size-2]? else none) with
 | some _=>λ_=>none
 | none=>pure (.done (none,()))
def dY0 (size lo k:Nat):PM (ForInStep (Option Unit×Nat)):=(λx=>some (x,x):PM PSt) >>= λx=>match x.p.back? with
 | some (s1,n1,_)=>Z3 (List.range' 0 (size-0)) (none,()) eH0 >>= λc=>match c with
  | (some _,_)=>λ_=>none
  | (none,_)=>(λx=>some (⟨⟩,{x with p:=x.p.modify (x.p.size-1) λ(st,len,_)=>(st,len,power' size (2*s1+n1) (2*s1+n1+n1+k) size)}):PM PUnit) >>= λ_=>dU9 lo k
 | none=>dU9 lo k
def dL2 (n:Nat)(o:Nat->Nat->Bool)(size mr:Nat)(_:Nat)(c:Option Unit×Nat):PM (ForInStep (Option Unit×Nat)):=
 if c.2≥size then pure (.done (none,c.2)) else bW2 n o c.2 (size-c.2) >>= λr=>match r with
 | some k=>if k<mr then dA7 >>= λ_=>dP3 n o c.2 (min (size-c.2) mr) k >>= λb=>if(!b)=true then λ_=>none else dY0 size c.2 (min (size-c.2) mr) else dY0 size c.2 k
 | none=>λ_=>none
def eG3 (n:Nat)(o:Nat->Nat->Bool)(_:Nat)(_:Option Unit×Unit):PM (ForInStep (Option Unit×Unit)):=(λx=>some (x,x):PM PSt) >>= λx=>if x.p.size<=1 then pure (.done (none,())) else
 dS2 n o (if(if x.p.size-2>0 then x.p[x.p.size-2-1]?.map (·.2.1) else none).any (· < (x.p[x.p.size-2+1]?.elim 0 (·.2.1))) then x.p.size-2-1 else x.p.size-2) >>= λb=>if(!b)=true then λ_=>none else pure (.yield (none,()))
def aR9 (n:Nat)(o:Nat->Nat->Bool):PM Unit:=(λx=>some (x,x):PM PSt) >>= λx=>
 Z3 (List.range' 0 (x.a.size-0)) (none,0) (dL2 n o x.a.size (minRun' x.a.size x.a.size 0)) >>= λc=>match c with
 | (some _,_)=>λ_=>none
 | (none,_)=>Z3 (List.range' 0 (x.a.size-0)) (none,()) (eG3 n o) >>= λc=>match c with
  | (some _,_)=>λ_=>none
  | (none,_)=>pure ()
theorem cU4 (lo k:Nat):Lf M A E s kd f (stF id) (do
  modify λs=>setPending s ((pendingOf s).push (lo,k,0))
  pure (ForInStep.yield ((none:Option Unit),lo+k))) (dU9 lo k):=B5 (F:=id) (aW4 λx=>rfl) λ_=>C1 rfl
theorem dI5 {prog:Program}{w:World}(C:Cmp (model prog w) A s kd f n o):Lf (model prog w) A E s kd f id sortRuns' (aR9 n o):=by
 rw[sortRuns'_eq];unfold aR9;refine B5 aD7 λx=>?_
 have Y:(arrOf (aD1 kd f x)).size=x.a.size:=Array.size_map ..
 rw[Y];refine B5 (F:=id) (U6 rfl λi c=>?_) λc=>?_
 .obtain⟨q,lo⟩:=c;unfold dL2;refine G7 (λ_=>C1 rfl) λ_=>B5 (F:=id) (cO2 C _ _) λr=>?_
  cases r with
  | none=>exact K6
  | some k=>
   refine G7 (λ_=>B5 (F:=id) bF3 λ_=>B5 (F:=id) (dR0 C _ _ _) λb=>G7 (λ_=>K6) λ_=>?_) λ_=>?_
   all_goals
    unfold dY0;refine B5 aD7 λy=>?_
    generalize g:(pendingOf (aD1 kd f y)).back? = bk;have e:y.p.back? = bk:=g;rw[e];cases bk with
    | none=>exact cU4 _ _
    | some u=>
     obtain⟨U,X,z⟩:=u;refine B5 (F:=id) (U6 rfl λi c=>?_) λc=>?_
     .unfold eH0;refine B5 aD7 λy=>?_
      generalize g:(if(pendingOf (aD1 kd f y)).size>1 then(pendingOf (aD1 kd f y))[(pendingOf (aD1 kd f y)).size-2]? else none)=bk;have e:(if y.p.size>1 then y.p[y.p.size-2]? else none)=bk:=g;rw[e];show Lf (model prog w) A E s kd f (stF id) (match (if(pendingOf (aD1 kd f y)).size>1 then(pendingOf (aD1 kd f y))[(pendingOf (aD1 kd f y)).size-2]? else none) with | some (_,_,m)=>_ | _=>pure (ForInStep.done (none,()))) _
      rw[g];cases bk with
      | none=>exact C1 rfl
      | some v=>exact K6
     .obtain⟨q,u⟩:=c;cases q with
      | some q=>exact K6
      | none=>exact B5 (F:=id) (aW4 λx=>rfl) λ_=>cU4 _ _
 .obtain⟨q,lo⟩:=c;cases q with
  | some q=>exact K6
  | none=>
   refine B5 (F:=id) (U6 rfl λi c=>?_) λc=>?_
   .unfold eG3;refine B5 aD7 λy=>G7 (λ_=>C1 rfl) λ_=>B5 (F:=id) (dT2 C _) λb=>G7 (λ_=>K6) λ_=>C1 rfl
   .obtain⟨q,u⟩:=c;cases q with
    | some q=>exact K6
    | none=>exact C1 rfl
end
end SRT
namespace LV
open PySem PySem.Spec PyProof.Rows L2 PySem.W Att SRT
section
variable {P:Program}{w:World}{A:Around}{s:Shared}{E:Dy}
def pk (vs:AF)(i:Nat):Keyed:=(vs.getD i .none,vs.getD i .none)
theorem dU7 (vs:AF):(List.range vs.length).toArray.map (pk vs)=vs.toArray.zip vs.toArray:=by
 refine Array.ext (by simp) λi h1 e=>?_
 have hi:i<vs.length:=by simpa using e
 simp[pk,List.getD,hi]
theorem aS8 {a:Addr}{vs:AF}{n:Nat}{kd:SortKind}{o:Nat->Nat->Bool}{x':PSt}{P':PySem.Fin->Shared->Prop}(ho:s.heap.get? a=some (seqObj "list" vs.toArray n))(F:2<=vs.length)(B:vs.length<=1000)
  (J:∀(s':Shared) (Q:SortKind->Shared->Prop) (E:Dy),(∀b ob,b≠a->s.heap.get? b=some ob->s'.heap.get? b=some ob)->Q kd s'->wpAny (model P w) A (keyKind' vs.toArray) Q E s')
  (C:∀s':Shared,(∀b ob,b≠a->s.heap.get? b=some ob->s'.heap.get? b=some ob)->Cmp (model P w) A s' kd (pk vs) vs.length o)
  (hp:aR9 vs.length o ⟨(List.range vs.length).toArray,#[],7⟩=some ((),x')) (D:x'.a.size=vs.length)
  (h:P' (.done (.ret .none)) {s with heap:=sortedHeap s.heap a vs (x'.a.map λi=>vs.getD i .none)}):wpAny (model P w) A (Builtin.«list.sort» ⟨[.ref a],[]⟩) P' E s:=by
 rw[list_sort_plain];have X:a<s.heap.objs.size:=Ab3 ho;refine Aa (listItems_at ho rfl ?_);refine Aa (listUpdate_at ho rfl ?_);obtain⟨k,z⟩:∃k,(s.heap.update a (Obj.mapSeq λ_ => #[])).get? a=some (seqObj "list" #[] k):=⟨_,get?_update_seq ho (λ_ => #[])⟩
 refine Aa (seqEpoch_at z rfl ?_);refine Aa (wpAny_newTuple ?_);refine Aa (wpAny_newList ?_);refine Bp ?_;have r:(((s.heap.update a (Obj.mapSeq λ_ => #[])).push (seqObj "tuple" vs.toArray 0)).push (seqObj "list" #[] 0)).get? a=some (seqObj "list" #[] k):=by
  rw[Heap.get?_push_ne _ _ _ (by rw[size_push',Heap.size_update];exact Ab9 (Bw X)),Heap.get?_push_ne _ _ _ (by rw[Heap.size_update];exact Ab9 X)]
  exact z
 show wpAny (model P w) A _ P' E {s with heap:=((s.heap.update a (Obj.mapSeq λ_ => #[])).push (seqObj "tuple" vs.toArray 0)).push (seqObj "list" #[] 0)}
 have U:∀b ob,b≠a->s.heap.get? b=some ob->(((s.heap.update a (Obj.mapSeq λ_ => #[])).push (seqObj "tuple" vs.toArray 0)).push (seqObj "list" #[] 0)).get? b=some ob:=λb ob M q=>by
  have y:=Ab3 q
  rw[Heap.get?_push_ne _ _ _ (by rw[size_push',Heap.size_update];exact Ab9 (Bw y)),Heap.get?_push_ne _ _ _ (by rw[Heap.size_update];exact Ab9 y),Heap.get?_update_ne _ _ _ _ M]
  exact q
 dsimp only
 have R:vs.toArray.size=vs.length:=by simp
 rw[Ac (by lia),Ac (by lia)]
 refine Aa (J _ _ _ U ?_);have m:SortSt.mk' kd (vs.toArray.zip vs.toArray) #[] 7 none=aD1 kd (pk vs) ⟨(List.range vs.length).toArray,#[],7⟩:=by
  show _=SortSt.mk' kd ((List.range vs.length).toArray.map (pk vs)) #[] 7 none
  rw[dU7]
 rw[m];refine Aa (wpAny_mono (dI5 (E:=E) (C _ U) _ () x' hp (λ_ g=>g=aD1 kd (pk vs) x') rfl) ?_ λ_ _ e=>e)
 rintro⟨⟨⟩,g⟩ s' ⟨rfl,rfl⟩;dsimp only;refine Aa (seqEpoch_at r rfl ?_);have Y:(arrOf (aD1 kd (pk vs) x')).map (·.2)=x'.a.map λi=>vs.getD i .none:=by
  show(x'.a.map (pk vs)).map (·.2)=_
  rw[Array.map_map];rfl
 refine Aa (listUpdate_at r rfl ?_ (hsz2:=by rw[Y,Array.size_map,D,Cd];lia))
 have N:failedOf (aD1 kd (pk vs) x')=none:=rfl
 rw[N];simp only[bne_self_eq_false,Ct,if_false];rw[Y];exact Ab h
theorem bL8 {l:Addr}{vs:AF}{kd:SortKind}{o:Nat->Nat->Bool}{x':PSt}{Q:Dy}(U:s.heap.IsList l vs.toArray)(Y:2<=vs.length)(M:vs.length<=1000)
  (X:∀(A:Around) (s':Shared) (Q:SortKind->Shared->Prop) (E:Dy),(∀b ob,s.heap.get? b=some ob->s'.heap.get? b=some ob)->Q kd s'->wpAny (model P w) A (keyKind' vs.toArray) Q E s')
  (C:∀(A:Around) (s':Shared),(∀b ob,s.heap.get? b=some ob->s'.heap.get? b=some ob)->Cmp (model P w) A s' kd (pk vs) vs.length o)
  (hp:aR9 vs.length o ⟨(List.range vs.length).toArray,#[],7⟩=some ((),x')) (J:x'.a.size=vs.length)
  (h:Q (.ref (s.heap.objs.size+1)) {s with heap:=sortedAll s.heap vs (x'.a.map λi=>vs.getD i .none)}):wpAny (model P w) A (call (.builtin "sorted") [.ref l]) Q E s:=by
 refine Calls.call_function_entry kind_sorted plain_sorted entry_sorted (args_sorted1 _) ?_;unfold Builtin.«sorted»;refine Aa (m:=checkCount "sorted" 1 1 _) (Ab ?_);refine Aa (collect_list U ?_ (by rw[Cd];lia))
 refine Aa (wpAny_newList ?_ (by rw[Cd];lia))
 have z:((s.heap.push (seqObj "list" #[] 0)).update s.heap.objs.size (Obj.mapSeq (· ++ vs.toArray))).objs.size=s.heap.objs.size+1:=by
  rw[Heap.size_update,size_push']
 have r:(((s.heap.push (seqObj "list" #[] 0)).update s.heap.objs.size (Obj.mapSeq (· ++ vs.toArray))).push (seqObj "list" vs.toArray 0)).get? (s.heap.objs.size+1)=some (seqObj "list" vs.toArray 0):=by
  rw[<- z];exact Ac3 _ rfl
 have g:∀b ob,s.heap.get? b=some ob->b≠s.heap.objs.size+1/\(((s.heap.push (seqObj "list" #[] 0)).update s.heap.objs.size (Obj.mapSeq (· ++ vs.toArray))).push (seqObj "list" vs.toArray 0)).get? b=some ob:=λb ob q=>by
  have y:=Ab3 q
  refine⟨Ab9 (Bw y),?_⟩;rw[Heap.get?_push_ne _ _ _ (by rw[z];exact Ab9 (Bw y)),Heap.get?_update_ne _ _ _ _ (Ab9 y),Heap.get?_push_ne _ _ _ (Ab9 y)]
  exact q
 show wpAny _ _ _ _ _ {s with heap:=((s.heap.push (seqObj "list" #[] 0)).update s.heap.objs.size (Obj.mapSeq (· ++ vs.toArray))).push (seqObj "list" vs.toArray 0)}
 rw[z];refine Aa (Bp (Cj slot_list_sort ⟨_,r,rfl⟩ entry_list_sort (aS8 r Y M (λs' Q E k q=>X _ s' Q E (λb ob e=>k b ob (g b ob e).1 (g b ob e).2) q) (λs' k=>C _ s' λb ob e=>k b ob (g b ob e).1 (g b ob e).2) hp J ⟨_,rfl,?_⟩) (args_list_sort _)))
 exact Ab ⟨_,rfl,h⟩
end
def sLt (x y:Str):Bool:=decide (x.cps.toList<y.cps.toList)
def pLt (x y:Str×Str):Bool:=if(x.1==y.1)=true then(if(x.2==y.2)=true then false else sLt x.2 y.2) else sLt x.1 y.1
def oP (zs:List (Str×Str))(i j:Nat):Bool:=pLt (zs.getD i (⟨#[]⟩,⟨#[]⟩)) (zs.getD j (⟨#[]⟩,⟨#[]⟩))
def Knw (n:Nat)(o:Nat->Nat->Bool)(q:AB):Prop:=(n<2/\q=List.range n)\/(2<=n/\n<=1000/\q.length=n/\(∀i∈q,i<n)/\(aR9 n o ⟨(List.range n).toArray,#[],7⟩).map (λr=>r.2.a.toList)=some q)
theorem Knw.get {n:Nat}{o:Nat->Nat->Bool}{q:AB}(h:(aR9 n o ⟨(List.range n).toArray,#[],7⟩).map (λr=>r.2.a.toList)=some q):∃x',aR9 n o ⟨(List.range n).toArray,#[],7⟩=some ((),x')/\x'.a.toList=q:=by
 cases e:aR9 n o ⟨(List.range n).toArray,#[],7⟩ with
 | none=>rw[e]at h;cases h
 | some r=>
  rw[e]at h;exact⟨r.2,rfl,Ab4 h⟩
section
variable {P:Program}{w:World}{A:Around}{s:Shared}{Q:Bool->Shared->Prop}
theorem bQ9 {x1 x2 y1 y2:Str}{t1 t2 u1 u2:Tok}(h:Q (pLt (x1,x2) (y1,y2)) s):KatLex P w A true false Q [(.str x1 t1,.str y1 u1),(.str x2 t2,.str y2 u2)] 0 s:=by
 refine kat_cons ?_;refine SeqAt.EqAt.str_str x1 t1 y1 u1 P w _ _ ?_;unfold pLt at h;dsimp only at h;cases e:(x1==y1) with
 | true=>
  rw[e,Ae rfl]at h;refine kat_yes (kat_cons (SeqAt.EqAt.str_str x2 t2 y2 u2 P w _ _ ?_));cases y:(x2==y2) with
  | true=>
   rw[y,Ae rfl]at h;exact kat_yes (kat_nil h)
  | false=>
   rw[y,Ac (by simp)]at h
   refine kat_no ?_;exact kat_one _ _ (lt_str h)
 | false=>
  rw[e,Ac (by simp)]at h
  refine kat_no ?_;exact oneLt_str h
end
def PairsV (K:Frag)(H:Hp):List V->List (Str×Str)->Prop
 | [],[]=>True
 | v::vs,z::zs=>(∃a,v=.ref a/\SqT K H a [.str z.1,.str z.2])/\PairsV K H vs zs
 | _,_=>False
theorem PairsV.length {K:Frag}{H:Hp}:∀{vs:List V} {ts:List (Str×Str)},PairsV K H vs ts->vs.length=ts.length
 | [],[],_=>rfl
 | _::_,_::_,r=>by simp[PairsV.length r.2]
 | [],_::_,r=>r.elim
 | _::_,[],r=>r.elim
def PairsAt (h:Heap):AF->List (Str×Str)->Prop
 | [],[]=>True
 | v::vs,z::zs=>(∃a t u,v=.ref a/\IsTup h a #[.str z.1 t,.str z.2 u])/\PairsAt h vs zs
 | _,_=>False
theorem PairsAt.get {h:Heap}:∀{vs:AF} {ts:List (Str×Str)} {i:Nat},PairsAt h vs ts->i<ts.length->∃a t u,vs.getD i .none=.ref a/\IsTup h a #[.str (ts.getD i (⟨#[]⟩,⟨#[]⟩)).1 t,.str (ts.getD i (⟨#[]⟩,⟨#[]⟩)).2 u]
 | v::vs,t::ts,0,⟨⟨a,t',u,e,h1⟩,_⟩,_=>⟨a,t',u,e,h1⟩
 | v::vs,t::ts,i+1,⟨_,r⟩,hi=>PairsAt.get (i:=i) r (by simpa using hi)
 | [],[],_,_,hi=>by simp at hi
 | [],_::_,_,r,_=>r.elim
 | _::_,[],_,r,_=>r.elim
theorem PairsAt.keep {h h':Heap}(k:∀b ob,h.get? b=some ob->h'.get? b=some ob):∀{vs:AF} {ts:List (Str×Str)},PairsAt h vs ts->PairsAt h' vs ts
 | [],[],_=>trivial
 | v::vs,t::ts,⟨⟨a,t',u,e,o,h1,h2⟩,r⟩=>⟨⟨a,t',u,e,o,k _ _ h1,h2⟩,r.keep k⟩
 | [],_::_,r=>r.elim
 | _::_,[],r=>r.elim
theorem PairsAt.kat {h:Heap}:∀{vs:AF} {ts:List (Str×Str)},PairsAt h vs ts->∃fs,KatTups h vs fs/\fs.length=vs.length/\∀f∈fs,∃i t,f=Value.str i t
 | [],[],_=>⟨[],.nil,rfl,by simp⟩
 | v::vs,t::ts,⟨⟨a,t',u,e,o,ho,hc,n,hd⟩,r⟩=>by
  obtain⟨fs,y,z,g⟩:=r.kat;subst e;refine⟨.str t.1 t'::fs,.cons ho hc hd (by simp) y,by simp[z],λf hf=>?_⟩
  rcases Aa1.mp hf with rfl | hf
  .exact⟨_,_,rfl⟩
  .exact g f hf
 | [],_::_,r=>r.elim
 | _::_,[],r=>r.elim
section
variable {X:Cx}{aA:Dz}{σ:L2.St}{H:Hp}{s:Shared}
theorem bN1 (I:Inv X aA σ H s):∀{vs:List V} {ts:List (Str×Str)} {us:AF},PairsV X.K H vs ts->Vals vs us->PairsAt s.heap us ts
 | [],[],_,_,r=>by cases r;exact trivial
 | v::vs,t::ts,_,⟨⟨a,e,sq⟩,h⟩,r=>by
  subst e;cases r with
  | cons k m=>
   cases k
   obtain⟨its,y,p,_⟩:=I.tuple sq;cases y with
   | cons z y=>
    obtain⟨Y,rfl⟩:=z;cases y with
    | cons g y=>
     obtain⟨U,rfl⟩:=g;cases y;exact⟨⟨a,Y,U,rfl,p⟩,bN1 I h m⟩
 | [],_::_,_,h,_=>h.elim
 | _::_,[],_,h,_=>h.elim
end
section
variable {X:Cx}
def cT6 (K:Frag):List V->Hp->VK->Prop:=λxs H Q=>∃(p:Addr) (ys:List V) (zs:List (Str×Str)) (q:AB),xs=[.ref p]/\SqL K H p ys/\PairsV K H ys zs/\Knw zs.length (oP zs) q /\
  ∀a,H a=none->Q (.ref a) (upd H a (.lst (q.map λi=>ys.getD i .non)))
theorem bY2 (K:Frag)(h:X.K=K:=by rfl):T0 X (.builtin "sorted") (cT6 K):=by
 subst h;intro aA s σ H xs us Q I r ⟨p,J,zs,Y,e,hq,ht,hk,q⟩;subst e;obtain⟨u,rfl,rx⟩:=V7 r;cases rx;obtain⟨its,U,pl,hz⟩:=I.list hq;have hlen:=U.length;have B:=ht.length;rcases hk with⟨R,rfl⟩ | ⟨R,N,m,F,hp⟩
 .refine bG1 pl.isList (by lia) ?_
  obtain⟨e,D⟩:=sortedAll_at s.heap its its.toArray;have y:=q (s.heap.objs.size+1) (I.hok.fresh (Nat.le_succ _));have el:((List.range zs.length).map λi=>J.getD i .non)=J:=by
   refine List.ext_getElem (by simp[B]) λi h1 R=>?_
   simp[List.getD,R]
  rw[el]at y;exact⟨.ref _,_,I.laid (t':=s.toks) (λb o e=>sortedAll_old e) (Nat.le_succ _) (show ObjOk X.prog X.w _ _ _ (.lst J) from⟨hz,its,e,U,D⟩),rfl,y⟩
 .have pa:=bN1 I ht U
  obtain⟨x',g,ex⟩:=Knw.get hp;have ez:zs.length=its.length:=by lia
  rw[ez]at g;have P:x'.a.size=its.length:=by rw[<- Array.length_toList,ex,m,ez]
  refine bL8 (kd:=tuples' true) pl.isList (by lia) (by lia) (λA s' Q E k q=>?_) (λA s' k i j hi hj Q E q=>?_) g P ?_
  .obtain⟨fs,k1,k2,k3⟩:=(pa.keep k).kat;have z:=kat_kind (M:=model X.prog X.w) (A:=A) (E:=E) (Q:=Q) (T:=.type "str") k1 (by lia) (λv hv=>by
    obtain⟨i,t,rfl⟩:=k3 v hv;exact λA Q E s _ q=>wpAny_of_eq (show typeOf (Value.str i t)=pure (.type "str") from rfl) q) (by decide)
   rw[show(Value.type "str" != Value.type "tuple")=true by decide]at z
   exact z q
  .obtain⟨a1,t1,u1,e1,o1,g1,c1,n1,d1⟩:=(pa.keep k).get (i:=i) (by lia)
   obtain⟨a2,t2,u2,e2,o2,g2,c2,n2,d2⟩:=(pa.keep k).get (i:=j) (by lia)
   unfold pk;dsimp only;rw[e1,e2];exact kat_lt g1 d1 g2 d2 (bQ9 q)
  .have eo:(x'.a.map λi=>its.getD i .none)=(Y.map λi=>its.getD i .none).toArray:=by
    rw[<- ex];exact Array.toList_inj.mp (by simp)
   rw[eo];obtain⟨e,D⟩:=sortedAll_at s.heap its (Y.map λi=>its.getD i .none).toArray
   have y:=q (s.heap.objs.size+1) (I.hok.fresh (Nat.le_succ _))
   have rv':=bD2 U (q:=Y) λi hi=>by have:=F i hi;lia
   exact⟨.ref _,_,I.laid (t':=s.toks) (λb o e=>sortedAll_old e) (Nat.le_succ _) (show ObjOk X.prog X.w _ _ _ (.lst (Y.map λi=>J.getD i .non)) from⟨by rw[Aa3,m,Cd];lia,_,e,rv',D⟩),rfl,y⟩
end
section
variable {K:Frag}{ρ:List Sl}
def pD (z:Str×Str):PyData:=.tuple [.str z.1,.str z.2]
theorem cA5 {H:Hp}:∀{zs:List (Str×Str)} {vs:List V},Reps K H vs (zs.map pD)->PairsV K H vs zs
 | [],_,r=>by cases r;exact trivial
 | z::zs,_,r=>by
  cases r with
  | cons a b=>
   refine⟨?_,cA5 b⟩;cases a with
   | tup s r=>
    cases r with
    | cons e y=>
     cases e
     cases y with
     | cons e y=>
      cases e;cases y
      exact⟨_,rfl,s⟩
theorem bP6 {H:Hp}{vs:List V}{ds:AD}(r:Reps K H vs ds):∀{q:AB},(∀i∈q,i<ds.length)->Reps K H (q.map λi=>vs.getD i .non) (q.map λi=>ds.getD i .none)
 | [],_=>.nil
 | i::q,h=>by
  have hi:=h i (by simp)
  obtain⟨v,h1,y⟩:=r.get' (i:=i) (d:=ds.getD i .none) (by rw[Aa2 hi];simp[List.getD,hi])
  have e:vs.getD i .non=v:=by simp[List.getD,h1]
  rw[Ac7,Ac7,e];exact .cons y (bP6 r λj z=>h j (by simp[z]))
theorem cS4 {n:Nat}{o:Nat->Nat->Bool}{q:AB}(h:Knw n o q):∀i∈q,i<n:=by
 rcases h with⟨_,rfl⟩ | ⟨_,_,_,h,_⟩
 .intro i hi;exact Ab5.mp hi
 .exact h
theorem dF1 {zs:List (Str×Str)}{q:AB}(h:∀i∈q,i<zs.length):(q.map λi=>(zs.map pD).getD i .none)=(q.map λi=>zs.getD i (⟨#[]⟩,⟨#[]⟩)).map pD:=by
 rw[Ae2];refine Ax λi hi=>?_
 have:=h i hi
 simp[List.getD,this]
theorem dI7 (zs:List (Str×Str)):K9 (zs.map pD)=true:=aE3 (λ_=>rfl) zs
theorem cW0 {t:TA}{zs ws:List (Str×Str)}{q:AB}(y:A K false t ρ [.list (zs.map pD)])(e:Knw zs.length (oP zs) q)(z:(q.map λi=>zs.getD i (⟨#[]⟩,⟨#[]⟩))=ws):EF K (tCB (cT6 K) t) ρ (ws.map pD):=by
 subst z;refine dM2 y (dI7 _) λH vs Q r g=>?_
 cases r with
 | cons a b=>
  cases b
  cases a with
  | @lst p xs _ s r=>
   refine⟨p,xs,zs,q,rfl,s,cA5 r,e,λa h1=>g a _ h1 ?_⟩
   have h:=bP6 r (q:=q) λi hi=>by rw[Aa3];exact cS4 e i hi
   rw[dF1 (cS4 e)]at h;exact h
end
end LV
set_option maxHeartbeats 1000000
namespace K48
open PySem L2 LV PyProof.Rows
theorem aP5:D4 ["m", "most"] ["m", "most"] (C3 W9):=⟨rfl,rfl,rfl,by decide +kernel,rfl,by decide +kernel,by decide +kernel⟩
theorem sc_many_pairs:D4 ["m", "c", "k"] ["m"] (C3 aC1):=⟨rfl,rfl,rfl,by decide +kernel,rfl,by decide +kernel,by decide +kernel⟩
theorem sc_all_rows:D4 ["m", "rows", "step", "up", "down"] ["m"] (C3 aI5):=⟨rfl,rfl,rfl,by decide +kernel,rfl,by decide +kernel,by decide +kernel⟩
theorem sc_all_pairs:D4 ["m", "rows", "pairs", "first"] ["m"] (C3 aE2):=⟨rfl,rfl,rfl,by decide +kernel,rfl,by decide +kernel,by decide +kernel⟩
def ctn:Nat->Nat
 | 0=>1
 | k+1=>ctn k*(4*k+2) / (k+2)
theorem dM8:∀k,k<103->ctn k<2^210:=by decide +kernel
def mpn (m:Nat):Int:=(ctn m:Int)*(ctn (m+2):Int)-(ctn (m+1):Int)*(ctn (m+1):Int)
theorem bK8 {k:Nat}(h:k<103){j:Int}(y:j.natAbs<2^210):CMulB (ctn k:Int) j:=by
 have e:(2:Nat)^210<=2^512:=Nat.pow_le_pow_right (by decide) (by decide)
 exact⟨Ab8 (by rw[Int.natAbs_natCast];exact dM8 k h) e,Ab8 y e⟩
theorem cA0 {k:Nat}(h:k<103):((ctn k:Int)).natAbs<2^210:=by rw[Int.natAbs_natCast];exact dM8 k h
theorem cI1 {j:Int}(h : -1000000<j/\j<1000000):j.natAbs<2^210:=Ab8 (show j.natAbs<2^20 by lia) (Nat.pow_le_pow_right (by decide) (by decide))
theorem cW8 (k:Nat):(ctn k:Int)*(4*(k:Int)+2) / ((k:Int)+2)=(ctn (k+1):Int):=by
 show _=((ctn k*(4*k+2) / (k+2):Nat):Int)
 rw[Int.natCast_ediv]
 simp
def cD (n:Nat):AD:=(List.range n).map λk=>PyData.int (ctn k:Int)
theorem dL1 {n k:Nat}(h:k<n):atI (cD n) (k:Int)=some (.int (ctn k:Int)):=M3 k rfl (by unfold cD;rw[Aa9,List.getElem?_range h];rfl)
theorem dJ9 (n:Nat):cD n++[.int (ctn n:Int)]=cD (n+1):=by unfold cD;rw[Bd,Ad2];rfl
theorem dW2 (n:Nat):(cD n).length=n:=by unfold cD;simp
def eD0 (ds:AD)(d:PyData):Prop:=∃m q:Int,0<=m/\m<=q/\q<1000/\ds=[.int m,.int q]/\d=.none
def dO8 (ds:AD)(d:PyData):Prop:=∃m:Nat,m<=100/\ds=[.int (m:Int)]/\d=.int (mpn m)
def oD:Option Nat->PyData
 | none=>.none
 | some k=>.int (k:Int)
def fOv:AB->AB->Nat->Option Nat
 | a::l,b::m,i=>if a<b then some i else fOv l m (i+1)
 | _,_,_=>none
def cN0 (ds:AD)(d:PyData):Prop:=∃w1 w2:List Bool,w1.length<=100/\w2.length<=100/\(ahd 0 w1).length=(ahd 0 w2).length/\ds=[.str (sb w1),.str (sb w2)]/\d=oD (fOv (ahd 0 w1) (ahd 0 w2) 0)
theorem aU2:∀(w:List Bool) (n:Nat),(ahd n w).length=w.count true
 | [],_=>rfl
 | true::w,n=>by simp[ahd,aU2 w n]
 | false::w,n=>by simp[ahd,aU2 w (n+1)]
section
variable {K:Frag}{ρ:List Sl}{m:Bool}{ta tb:TE}
theorem bG4 {l:AB}{c:Nat}(g:LV.E K false ta ρ (.str (tx l)))(k:LV.E K false tb ρ (.str (tx [c]))):LV.E K m (tBM K "str" aO1 ta (K7 tb S8)) ρ (.int (l.count c:Nat)):=LV.E.bor (LV.E.imm (m:=false) λS B σ H o I Q q=>g S B σ H o I _ λv y e r=>by
 cases r
 refine⟨rfl,?_⟩;refine k S B σ y o (I.grow e) _ λu z Y s=>?_
 cases s
 refine⟨_,c,rfl,rfl,?_⟩;exact q _ z (L2.Same.tr e Y) (.int _))
end
def sbD (w:List Bool):PyData:=.str (sb w)
def aG2 (x:Str):List Bool:=x.cps.toList.map (· == 117)
theorem bI5 (w:List Bool):aG2 (sb w)=w:=by
 unfold aG2 sb;rw[Ae2];refine(Ax (g:=id) λb _=>?_).trans (List.map_id w)
 cases b <;> rfl
theorem cB6 (w:List Bool):(cS w).count 117=w.count true:=by
 induction w with
 | nil=>rfl
 | cons b w y=>
  have e:cS (b::w)=(if b=true then 117 else 100)::cS w:=rfl
  rw[e,List.count_cons,List.count_cons,y];cases b <;> rfl
theorem dO9 (w:List Bool):(cS w).count 100=w.count false:=by
 induction w with
 | nil=>rfl
 | cons b w y=>
  have e:cS (b::w)=(if b=true then 117 else 100)::cS w:=rfl
  rw[e,List.count_cons,List.count_cons,y];cases b <;> rfl
def arW (m:Nat):Nat->List (List Bool)
 | 0=>[[]]
 | j+1=>((arW m j).filter λw=>decide (w.count true<m)).map (· ++ [true])++((arW m j).filter λw=>decide (w.count false<w.count true)).map (· ++ [false])
theorem dK6:∀m,m<5->∀j,j<9->(arW m j).length<=100/\∀w∈arW m j,w.length<=8:=by decide +kernel
def fUp (m:Nat):PyData->Option PyData
 | .str x=>if(aG2 x).count true<m then some (sbD (aG2 x++[true])) else none
 | _=>none
def fDn:PyData->Option PyData
 | .str x=>if(aG2 x).count false<(aG2 x).count true then some (sbD (aG2 x++[false])) else none
 | _=>none
theorem cW5 (m:Nat)(w:List Bool):fUp m (sbD w)=if w.count true<m then some (sbD (w++[true])) else none:=by
 show(if(aG2 (sb w)).count true<m then some (sbD (aG2 (sb w)++[true])) else none)=_
 rw[bI5]
theorem cS2 (w:List Bool):fDn (sbD w)=if w.count false<w.count true then some (sbD (w++[false])) else none:=by
 show(if(aG2 (sb w)).count false<(aG2 (sb w)).count true then some (sbD (aG2 (sb w)++[false])) else none)=_
 rw[bI5]
theorem dE0 (m:Nat)(L:List (List Bool)):(L.map sbD).filterMap (fUp m)=((L.filter λw=>decide (w.count true<m)).map (· ++ [true])).map sbD:=by
 induction L with
 | nil=>rfl
 | cons w L e=>
  rw[Ac7,Ak,cW5,List.filter_cons];by_cases h:w.count true<m
  .rw[Ae h,Ae (Bu h)];dsimp only;rw[e];rfl
  .rw[Ac h,Ac (by simpa using h)]
   dsimp only
   exact e
theorem dJ2 (L:List (List Bool)):(L.map sbD).filterMap fDn=((L.filter λw=>decide (w.count false<w.count true)).map (· ++ [false])).map sbD:=by
 induction L with
 | nil=>rfl
 | cons w L e=>
  rw[Ac7,Ak,cS2,List.filter_cons];by_cases h:w.count false<w.count true
  .rw[Ae h,Ae (Bu h)];dsimp only;rw[e];rfl
  .rw[Ac h,Ac (by simpa using h)]
   dsimp only
   exact e
theorem eC6 (w:List Bool):tx (cS w++[117])=sb (w++[true]):=by rw[dN1];unfold cS;rw[Ad2];rfl
theorem eI4 (w:List Bool):tx (cS w++[100])=sb (w++[false]):=by rw[dN1];unfold cS;rw[Ad2];rfl
theorem cZ7 (w:List Bool):(cS w).length=w.length:=by unfold cS;simp
theorem bS1 (L:List (List Bool)):K9 (L.map sbD)=true:=aE3 (λ_=>rfl) L
def eJ3 (ds es:AD):Prop:=∃m:Nat,m<5/\ds=[.int (m:Int)]/\es=(arW m (2*m)).map sbD
def lrS (m:Nat):List (List Bool)->List (List Bool)
 | []=>[]
 | w::L=>(if w.count true>w.count false then [w++[false]] else [])++(if w.count true<m then [w++[true]] else [])++lrS m L
def lrW (m:Nat):Nat->List (List Bool)
 | 0=>[[]]
 | j+1=>lrS m (lrW m j)
def nn (f s:List Bool):Bool:=(fOv (ahd 0 f) (ahd 0 s) 0).isNone
def prP (m:Nat):List (List Bool×List Bool):=(arW m (2*m)).flatMap λf=>((arW m (2*m)).filter (nn f)).map λs=>(f,s)
def okP (m:Nat)(f s:List Bool):Bool:=decide (((List.range m).filter λi=>decide ((ahd 0 s).getD i 0>(ahd 0 f).getD i 0)).length=0)
def lpP (m:Nat):List (List Bool×List Bool):=(lrW m (2*m)).flatMap λf=>((lrW m (2*m)).filter (okP m f)).map λs=>(f,s)
def sbP (x:List Bool×List Bool):Str×Str:=(sb x.1,sb x.2)
def qP (m:Nat):AB:=(lpP m).map λx=>(prP m).idxOf x
theorem dW5:∀m,m<5->Knw ((prP m).map sbP).length (oP ((prP m).map sbP)) (qP m):=λm e=>by
 match m,e with
 | 0,_=>exact .inl ⟨by decide +kernel,by decide +kernel⟩
 | 1,_=>exact .inl ⟨by decide +kernel,by decide +kernel⟩
 | 2,_=>exact .inr ⟨by decide +kernel,by decide +kernel,by decide +kernel,by decide +kernel,by decide +kernel⟩
 | 3,_=>exact .inr ⟨by decide +kernel,by decide +kernel,by decide +kernel,by decide +kernel,by decide +kernel⟩
 | 4,_=>exact .inr ⟨by decide +kernel,by decide +kernel,by decide +kernel,by decide +kernel,by decide +kernel⟩
theorem dW3:∀m,m<5->((qP m).map λi=>((prP m).map sbP).getD i (⟨#[]⟩,⟨#[]⟩))=(lpP m).map sbP:=by decide +kernel
theorem dC0:∀m,m<5->(prP m).length<=100:=by decide +kernel
theorem dG3:∀m,m<5->((lpP m).length:Int)=mpn m/\0<(lpP m).length/\(lpP m).length<=100:=by decide +kernel
theorem eH9:∀m,m<5->∀w∈arW m (2*m),w.count true=m:=by decide +kernel
def xD (x:List Bool×List Bool):PyData:=pD (sbP x)
def eH8 (ds es:AD):Prop:=∃m:Nat,m<5/\ds=[.int (m:Int)]/\es=(lpP m).map xD
def fPr (f:List Bool):PyData->Option PyData
 | .str x=>if nn f (aG2 x)=true then some (xD (f,aG2 x)) else none
 | _=>none
theorem dA1 (f s:List Bool):fPr f (sbD s)=if nn f s=true then some (xD (f,s)) else none:=by
 show(if nn f (aG2 (sb s))=true then some (xD (f,aG2 (sb s))) else none)=_
 rw[bI5]
theorem dD3 (f:List Bool)(L:List (List Bool)):(L.map sbD).filterMap (fPr f)=((L.filter (nn f)).map λs=>(f,s)).map xD:=by
 induction L with
 | nil=>rfl
 | cons w L e=>
  rw[Ac7,Ak,dA1,List.filter_cons];cases h:nn f w with
  | true=>
   rw[Ae rfl,Ae rfl];dsimp only;rw[e];rfl
  | false=>
   rw[Ac (by simp),Ac (by simp)]
   dsimp only
   exact e
theorem dI9 {α β:Type}(L:List α)(g:α->List β){i:Nat}{x:α}(h:L[i]? = some x):(L.take (i+1)).flatMap g=(L.take i).flatMap g++g x:=by
 rw[Dj,h,List.flatMap_append];simp
theorem dV3 {α β:Type}(L:List α)(g:α->List β){n:Nat}(h:∀x∈L,(g x).length<=n)(i:Nat):((L.take i).flatMap g).length<=L.length*n:=by
 have e:∀M:List α,(∀x∈M,(g x).length<=n)->(M.flatMap g).length<=M.length*n:=λM z=>by
  induction M with
  | nil=>exact Cn _
  | cons x M m=>
   rw[List.flatMap_cons,Ab7,Aw,Nat.add_mul]
   have:=z x Az
   have:=m λy s=>z y (Ad4 _ s)
   lia
 have h1:=e (L.take i) λx k=>h x (As k)
 have r:(L.take i).length<=L.length:=by rw[Ad1];lia
 exact Bf h1 (Nat.mul_le_mul_right _ r)
theorem cU2 {L:List (List Bool)}(p:List Bool->Bool)(f:List Bool)(h:L.length<=100):((L.filter p).map λs=>(f,s)).length<=100:=by rw[Aa3];exact Bf (List.length_filter_le _ _) h
section
variable {P:Program}{w:World}{K:Frag}{mg:Str->Option Value}{base:Heap}{a:Ad}
theorem dQ0 (T:Tx K mg a):FnOk P w K mg base CX0 2 a.X4 a.X6 ["first", "second"] (spV K cN0):=by
 have z:FnOk P w K mg base CX0 1 _ _ _ _:=dM4 T
 refine T.X7.ok sc_first_over (T5 λds d ⟨_,_,_,_,_,e,_⟩=>by rw[e];rfl) (λcdv A R s H vs Q E D h=>?_)
 obtain⟨ds,S,d,hS,r,⟨k,m,l1,l2,le,rfl,rfl⟩,q⟩:=h;refine⟨_,(A6 (G5 Aj rfl (dN6 K rfl T.cD3 rfl T.Q9 (A0 (C6 z (D.mono (by decide)) rfl T.V2 T.P9.kp T.V1 .nil E2 (A0 (pv 0) A4)) (A0 (C6 z (D.mono (by decide)) rfl T.V2 T.P9.kp T.V1 .nil E2 (A0 (pv 1) A4)) A4))) (aR5 (n:=2) rfl (O2 (C5 (i:=2) sc_first_over.nd rfl (Or.inl rfl)) (O2 (C5 (i:=3) sc_first_over.nd rfl (Or.inl rfl)) aF7))) (B0 (N5 (B9 t5 (B6 (ixK K) (pv 3) A7 (λ_ _=>rfl)) (B6 (ixK K) (pv 3) A7 (λ_ _=>rfl)) (C7 _)) (B0 (D2 (pv 2))) H9)))
   (B0 (D2 aB8))),K1 hS r ?_ q⟩
 generalize N:fOv (ahd 0 k) (ahd 0 m) 0=rr;refine B4 (N2 (eA2 (ds:=nI (ahd 0 k)) (es:=nI (ahd 0 m)) (A5 (EF.e' (S4 (A5 (A1 rfl) B1) ⟨k,l1,rfl,rfl⟩)) (A5 (EF.e' (S4 (A5 (A1 rfl) B1) ⟨m,l2,rfl,rfl⟩)) B1)) (by rw[C8,C8];exact le)) (λj ρ=>∃X U,fOv ((ahd 0 k).drop j) ((ahd 0 m).drop j) j=rr/\X.nb=true/\U.nb=true/\ρ=[.val (.str (sb k)),.val (.str (sb m)),X,U]) ⟨.no,.no,N,rfl,rfl,rfl⟩ ?_ ?_)
 .rintro j d _ hj ⟨X,U,g,F,B,rfl⟩;obtain⟨y,hy,rfl⟩:=aJ4 hj;obtain⟨p,Y,J,M,rfl⟩:=aW0 hy;unfold nI at J M;rw[Aa9]at J M;obtain⟨p,h1,rfl⟩:=Bn.mp J;obtain⟨Y,h2,rfl⟩:=Bn.mp M;obtain⟨j1,c1⟩:=Ab0.mp h1;obtain⟨j2,c2⟩:=Ab0.mp h2;rw[Ao j1,Ao j2,c1,c2]at g;have g:(if p<Y then some j else fOv ((ahd 0 k).drop (j+1)) ((ahd 0 m).drop (j+1)) (j+1))=rr:=g;refine⟨_,bD3 (Q2 D5 (Q2 D5 aP7)),?_⟩;refine V4 (b:=decide (p<Y)) (Q1 (U7 (E4 (ds:=[.int (p:Nat),.int (Y:Nat)]) (A1 rfl) A9 rfl rfl) (E4 (ds:=[.int (p:Nat),.int (Y:Nat)]) (A1 rfl) A9 rfl rfl)) (Cz.mpr (by lia))) (λh=>?_) (λh=>?_)
  .rw[Ae (Am h)]at g;exact M8 (d:=.int (j:Int)) (A1 rfl) (by rw[<- g];rfl)
  .rw[Ac (Bm h)]at g;exact M2 ⟨_,_,g,rfl,rfl,rfl⟩
 rintro _ ⟨X,U,g,F,B,rfl⟩;have el:(enD (zpD (nI (ahd 0 k)) (nI (ahd 0 m)))).length=(ahd 0 k).length:=by rw[aF4,bJ7 (by rw[C8,C8];exact le),C8]
 rw[el,List.drop_length]at g;have g:none=rr:=g;exact M8 bD0 (by rw[<- g];rfl)
theorem dO3 (T:Tx K mg a):FnOk P w K mg base CX0 1 a.W2 a.W3 ["m", "most"] (spV K eD0):=by
 refine T.W1.ok aP5 (T5 (by rintro ds d ⟨_,_,_,_,_,e,_⟩;rw[e];rfl)) (λz A y s H vs Q E J h=>?_)
 obtain⟨ds,S,d,k,r,⟨m,Y,h1,X,U,rfl,rfl⟩,q⟩:=h;refine⟨_,(B0 (N5 (PW.pt (T2 (B9 aH2 (pv 0) A7 (C7 _)) (v5 (B9 t5 (pv 0) (pv 1) (C7 _))))) aQ3 H9)),K1 k r ?_ q⟩;refine V4 (aD0 (D1 (U7 (g:=λi j=>decide (i<j)) (A1 (i:=0) rfl) A9)) λ_=>D1 (U7 (g:=λi j=>decide (i>j)) (A1 (i:=0) rfl) (A1 (i:=1) rfl))) (λh=>?_) (λ_=>M2 rfl)
 rw[show decide (m<0)=false from Ba (by lia),show decide (m>Y)=false from Ba (by lia)]at h
 cases h
theorem eE4 (T:Tx K mg a):FnOk P w K mg base CX0 2 a.aA2 a.w9 ["m"] (spV K dO8):=by
 have y:FnOk P w K mg base CX0 1 _ _ _ _:=dO3 T
 obtain⟨tm,R⟩:=T.Z4;refine T.aM7.ok sc_many_pairs (T5 (by rintro ds d ⟨_,_,e,_⟩;rw[e];rfl)) (λM A X s H vs Q E F h=>?_)
 obtain⟨ds,S,d,D,r,⟨m,h1,rfl,rfl⟩,q⟩:=h;refine⟨_,(A6 (E8 (C6 y (F.mono (by decide)) rfl T.aC8 T.W1.kp T.aC9 .nil E2 (A0 (pv 0) (A0 (M6 (v:=.int 100) rfl R ⟨tm,rfl⟩) A4))))
   (A6 (C0 (i:=1) sc_many_pairs.nd rfl (Or.inl rfl) (C9 (A0 A7 A4)))
   (A6 (G5 Aj rfl (G8 rfl T.J0 (A0 (B2 G0 (pv 0) A7) A4)) (C5 (i:=2) sc_many_pairs.nd rfl (Or.inl rfl)) (B0 (E8 (J9 Ab1 Ag Af D9 (pv 1) (A0 (B2 aL0 (B2 R6 (B6 (ixK K) (pv 1) (pv 2) (λ_ _=>rfl)) (B2 G0 (B2 R6 A7 (pv 2)) A7)) (B2 G0 (pv 2) A7)) A4)))))
   (B0 (D2 (B2 L4 (B2 R6 (B6 (ixK K) (pv 1) (pv 0) (λ_ _=>rfl)) (B6 (ixK K) (pv 1) (B2 G0 (pv 0) A7) (λ_ _=>rfl))) (B2 R6 (B6 (ixK K) (pv 1) (B2 G0 (pv 0) A7) (λ_ _=>rfl)) (B6 (ixK K) (pv 1) (B2 G0 (pv 0) A7) (λ_ _=>rfl))))))))),K1 D r ?_ q⟩
 refine B4 (cN1 (m:=true) (E6 (A5 (A1 (i:=0) rfl) (A5 A9 B1)) ⟨(m:Int),100,by lia,by lia,by lia,rfl,rfl⟩) ?_)
 refine B4 (K2 (ds:=cD 1) (J8 (A5 A9 B1) (show(1:Nat)<=PySem.sizeLine by decide)) ?_ (show 1<3 by decide))
 refine B4 (N2 (Q4 (j:=((m+2:Nat):Int)) (A5 (EI.to (L9 (A1 (i:=0) rfl) A9) (by lia)) B1) (by lia) (by lia)) (λj ρ=>∃g,g.nb=true/\ρ=[.val (.int (m:Int)),.own (cD (j+1)),g]) ⟨.no,rfl,rfl⟩ ?_ ?_)
 .rintro j d _ hj ⟨g,b2,rfl⟩;obtain⟨rfl,Y⟩:=Q6 hj;rw[Ac8]at Y;refine⟨_,D5,?_⟩;refine P5 rfl (EI.to (e_i (e_i (E4 (ds:=cD (j+1)) (K4 (i:=1) rfl) (A1 (i:=2) rfl) rfl (dL1 (Nat.lt_succ_self j))) (L9 (e_i A9 (A1 (i:=2) rfl) (bV4 (by decide) (by lia))) A9) (bK8 (by lia) (cI1 (by lia)))) (L9 (A1 (i:=2) rfl) A9) ⟨by lia,by lia⟩) (cW8 j)) (by rw[dW2];unfold sizeLine;lia) ⟨.val (.int (j:Int)),rfl,?_⟩
  rw[<- dJ9 (j+1)];rfl
 .rintro _ ⟨g,b2,rfl⟩;have N:(P6 0 (((m+2:Nat):Int)).toNat).length=m+2:=by unfold P6;simp;lia
  rw[N];have z:∀{J:Bool} (k:Nat) {t:TE},k<=m+2->LV.E K false t [.val (.int (m:Int)),.own (cD (m+2+1)),g] (.int (k:Int))->LV.E K J (tOp (rIx K) (J7 1) t) [.val (.int (m:Int)),.own (cD (m+2+1)),g] (.int (ctn k:Int)):=λ{J} k {t} hk B=>LV.E.bor (LV.E.imm (m:=false) (E4 (d:=.list (cD (m+2+1))) (ds:=cD (m+2+1)) (K4 (i:=1) (ds:=cD (m+2+1)) rfl) B rfl (dL1 (by lia))))
  have U:(m:Int)+1=((m+1:Nat):Int):=by lia
  have m2:(m:Int)+2=((m+2:Nat):Int):=by lia
  exact M8 (L9 (e_i (z m (by lia) (A1 (i:=0) rfl)) (z (m+2) (by lia) (EI.to (L9 (A1 (i:=0) rfl) A9) m2)) (bK8 (by lia) (cA0 (by lia)))) (e_i (z (m+1) (by lia) (EI.to (L9 (A1 (i:=0) rfl) A9) U)) (z (m+1) (by lia) (EI.to (L9 (A1 (i:=0) rfl) A9) U)) (bK8 (by lia) (cA0 (by lia))))) rfl
theorem eG1 (T:Tx K mg a):FnOk P w K mg base CX0 1 a.aJ9 a.aI8 ["m"] (spL K eJ3):=by
 refine T.aY0.ok sc_all_rows (cJ4 λds d ⟨_,_,e,_⟩=>by rw[e];rfl) (λB A R s H vs Q E hr h=>?_)
 obtain⟨ds,S,es,hS,r,⟨m,hm,rfl,rfl⟩,q⟩:=h;refine⟨_,(A6 (C0 (i:=1) sc_all_rows.nd rfl (Or.inl rfl) (C9 (A0 E7 A4)))
   (A6 (G5 Aj rfl (G8 rfl T.J0 (A0 (B2 R6 A7 (pv 0)) A4)) (C5 (i:=2) sc_all_rows.nd rfl (Or.inl rfl)) (A6 (u9 (i:=3) sc_all_rows.nd rfl rfl (T:=["row"]) (N':=["row", "m"]) (is:=[0]) rfl (.of rfl rfl rfl (by exact⟨rfl,trivial⟩) rfl rfl rfl (by exact⟨⟨_,rfl,by first | exact .inl rfl | exact .inr rfl,by first | exact .inl rfl | exact .inr rfl⟩,trivial⟩)) (P3 (pv 1)) (O8 (by decide)) λ_ _ _ _=>⟨(C5 (i:=0) (by decide +kernel:(["row", "m"]:AG).Nodup) rfl (Or.inl rfl)),(V9 (B9 aH2 (bM7 K PySem.F.plainAttrs_str PySem.F.slot_str_count PySem.F.type_str_count R4 (pv 0) (A0 E7 A4)) (pv 1) (C7 _))),(B2 J6 (pv 0) E7)⟩)
   (A6 (u9 (i:=4) sc_all_rows.nd rfl rfl (T:=["row"]) (N':=["row"]) (is:=[]) rfl (.of rfl rfl rfl (by exact trivial) rfl rfl rfl (by exact trivial)) (P3 (pv 1)) (O8 (by decide)) λ_ _ _ _=>⟨(C5 (i:=0) (by decide +kernel:(["row"]:AG).Nodup) rfl (Or.inl rfl)),(V9 (B9 aH2 (bM7 K PySem.F.plainAttrs_str PySem.F.slot_str_count PySem.F.type_str_count R4 (pv 0) (A0 E7 A4)) (bM7 K PySem.F.plainAttrs_str PySem.F.slot_str_count PySem.F.type_str_count R4 (pv 0) (A0 E7 A4)) (C7 _))),(B2 J6 (pv 0) E7)⟩)
   (B0 (C0 (i:=1) sc_all_rows.nd rfl (Or.inl rfl) (B2 (J4 K) (pv 3) (pv 4)))))))
   (B0 (D2 (pv 1))))),aP0 hS r ?_ q⟩
 refine B4 (K2 (ds:=(arW m 0).map sbD) (J8 (A5 (bA8 [] rfl) B1) (show(1:Nat)<=PySem.sizeLine by decide)) ?_ (show 1<5 by decide))
 refine B4 (N2 (Q4 (j:=((2*m:Nat):Int)) (A5 (EI.to (e_i A9 (A1 (i:=0) rfl) (bV4 (by decide) (by lia))) (by lia)) B1) (by lia) (by lia)) (λj ρ=>∃U Y X,U.nb=true/\Y.nb=true/\X.nb=true/\ρ=[.val (.int (m:Int)),.own ((arW m j).map sbD),U,Y,X]) ⟨.no,.no,.no,rfl,rfl,rfl,rfl⟩ ?_ ?_)
 .rintro j d _ hj ⟨U,Y,X,b2,b3,b4,rfl⟩;obtain⟨rfl,M⟩:=Q6 hj;rw[Ac8]at M;obtain⟨l1,D⟩:=dK6 m hm j (by lia)
  refine⟨_,D5,?_⟩;refine bE4 (i:=1) rfl ?_;show W K _ [.val (.int (m:Int)),.val (.list ((arW m j).map sbD)),.val (.int (j:Int)),Y,X] _;refine B4 (K2 (EF.to (P2 (m:=true) (fUp m) (U0 (ds:=(arW m j).map sbD) (A1 (i:=1) rfl)) (by rw[Aa3];unfold sizeLine;lia) λd J=>?_) (dE0 m _)) ?_ (show 3<5 by decide))
  .obtain⟨y,z,rfl⟩:=Aa8.mp J;have N:=D y z;refine⟨_,D5,?_⟩;have k:=U7 (K:=K) (m:=false) (ρ:=[.val (sbD y),cap (.val (.int (m:Int)))]) (g:=λi j=>decide (i<j)) (bG4 (l:=cS y) (c:=117) (A1 (i:=0) rfl) (U1 (x:=Str.ofString "u") (by decide))) (A1 (i:=1) rfl)
   rw[cW5];by_cases h:y.count true<m
   .rw[Ae h];refine⟨Q1 k (Bu (by rw[cB6];lia)),?_⟩
    show LV.E K true _ _ (.str (sb (y++[true])))
    rw[<- eC6];exact aC3 (a:=cS y) (b:=[117]) (A1 (i:=0) rfl) (U1 (by decide)) (by rw[cZ7];simp;lia)
   .rw[Ac h];exact Q1 k (Ba (by rw[cB6];lia))
  refine B4 (K2 (EF.to (P2 (m:=true) fDn (U0 (ds:=(arW m j).map sbD) (A1 (i:=1) rfl)) (by rw[Aa3];unfold sizeLine;lia) λd J=>?_) (dJ2 _)) ?_ (show 4<5 by decide))
  .obtain⟨y,z,rfl⟩:=Aa8.mp J;have N:=D y z;refine⟨_,D5,?_⟩;have k:=U7 (K:=K) (m:=false) (ρ:=[.val (sbD y)]) (g:=λi j=>decide (i<j)) (bG4 (l:=cS y) (c:=100) (A1 (i:=0) rfl) (U1 (x:=Str.ofString "d") (by decide))) (bG4 (l:=cS y) (c:=117) (A1 (i:=0) rfl) (U1 (x:=Str.ofString "u") (by decide)))
   rw[cS2];by_cases h:y.count false<y.count true
   .rw[Ae h];refine⟨Q1 k (Bu (by rw[cB6,dO9];lia)),?_⟩
    show LV.E K true _ _ (.str (sb (y++[false])))
    rw[<- eI4];exact aC3 (a:=cS y) (b:=[100]) (A1 (i:=0) rfl) (U1 (by decide)) (by rw[cZ7];simp;lia)
   .rw[Ac h];exact Q1 k (Ba (by rw[cB6,dO9];lia))
  have f1:=List.length_filter_le (λw:List Bool=>decide (w.count true<m)) (arW m j)
  have f2:=List.length_filter_le (λw:List Bool=>decide (w.count false<w.count true)) (arW m j)
  refine K2 (ds:=(arW m (j+1)).map sbD) (EF.to (bA3 (K4 (i:=3) rfl) (K4 (i:=4) rfl) (bS1 _) (bS1 _) (by rw[Aa3,Aa3,Aa3,Aa3];unfold sizeLine;lia)) (by rw[<- Ad2];rfl)) ⟨.val (.int (j:Int)),.own _,.own _,rfl,rfl,rfl,rfl⟩ (show 1<5 by decide)
 .rintro _ ⟨U,Y,X,b2,b3,b4,rfl⟩;have el:(P6 0 (((2*m:Nat):Int)).toNat).length=2*m:=by unfold P6;simp;lia
  rw[el];exact cQ8 (i:=1) rfl rfl
theorem eH5 (T:Tx K mg a):FnOk P w K mg base CX0 3 a.aE8 a.aD4 ["m"] (spL K eH8):=by
 have y:FnOk P w K mg base CX0 1 _ _ _ _:=dO3 T
 have Y:FnOk P w K mg base CX0 1 _ _ _ _:=eG1 T
 have z:FnOk P w K mg base CX0 2 _ _ _ _:=dQ0 T
 obtain⟨tm,gm⟩:=T.j8;refine T.aS1.ok sc_all_pairs (cJ4 (by rintro ds d ⟨_,_,e,_⟩;rw[e];rfl)) (λcdv A D s H vs Q E R h=>?_)
 obtain⟨ds,S,es,hS,r,⟨m,h1,rfl,rfl⟩,q⟩:=h;refine⟨_,(A6 (E8 (C6 y (R.mono (by decide)) rfl T.aC8 T.W1.kp T.aC9 .nil E2 (A0 (pv 0) (A0 (M6 (v:=.int 4) rfl gm ⟨tm,rfl⟩) A4))))
   (A6 (C0 (i:=1) sc_all_pairs.nd rfl (Or.inl rfl) (C6 Y (R.mono (by decide)) rfl T.bV6 T.aY0.kp T.bV2 .nil E2 (A0 (pv 0) A4)))
   (A6 (C0 (i:=2) sc_all_pairs.nd rfl (Or.inl rfl) (C9 A4))
   (A6 (G5 Aj rfl (P3 (pv 1)) (C5 (i:=3) sc_all_pairs.nd rfl (Or.inr rfl)) (B0 (E8 (J9 Ab1 PySem.F.slot_list_extend PySem.F.type_list_extend cL5 (pv 2) (A0 (X1 (T:=["second"]) (N':=["second", "first"]) (is:=[3]) rfl (.of rfl rfl rfl (by exact⟨rfl,trivial⟩) rfl rfl rfl (by exact⟨⟨_,rfl,by first | exact .inl rfl | exact .inr rfl,by first | exact .inl rfl | exact .inr rfl⟩,trivial⟩)) (P3 (pv 1)) (O8 (by decide)) λ_ _ _ _=>⟨(C5 (i:=0) (by decide +kernel:(["second", "first"]:AG).Nodup) rfl (Or.inl rfl)),(V9 (B9 cV1 (C6 z (R.mono (by decide)) rfl T.aM2 T.X7.kp T.aM0 .nil E2 (A0 (pv 1) (A0 (pv 0) A4))) aB8 (C7 _))),(O1 (A0 (pv 1) (A0 (pv 0) A4)))⟩) A4)))))
   (B0 (D2 (B8 (bY2 K) (by rfl) T.aZ4 boot_sorted (A0 (pv 2) A4)))))))),aP0 hS r ?_ q⟩
 refine B4 (cN1 (m:=true) (E6 (A5 (A1 (i:=0) rfl) (A5 A9 B1)) ⟨(m:Int),4,by lia,by lia,by lia,rfl,rfl⟩) ?_)
 obtain⟨l1,l2⟩:=dK6 m h1 (2*m) (by lia)
 have l3:=eH9 m h1
 have pl:=dC0 m h1
 refine B4 (K2 (ds:=(arW m (2*m)).map sbD) (S4 (A5 (A1 (i:=0) rfl) B1) ⟨m,h1,rfl,rfl⟩) ?_ (show 1<4 by decide))
 refine bE4 (i:=1) rfl ?_;refine B4 (K2 (ds:=[]) (J8 B1) ?_ (show 2<4 by decide))
 generalize hL:arW m (2*m)=L at *;refine B4 (N2 (U0 (ds:=L.map sbD) (A1 (i:=1) rfl)) (λi ρ=>∃N,N.nb=true/\ρ=[.val (.int (m:Int)),.val (.list (L.map sbD)),.own (((L.take i).flatMap λf=>(L.filter (nn f)).map λs=>(f,s)).map xD),N]) ⟨.no,rfl,rfl⟩ ?_ ?_)
 .rintro i d _ M ⟨N,b3,rfl⟩;rw[Aa9]at M;obtain⟨f,B,rfl⟩:=Bn.mp M;have U:=Ar B;have hfl:=l2 f U;refine⟨_,D5,?_⟩;have hz:=dV3 L (λf=>(L.filter (nn f)).map λs=>(f,s)) (λx _=>cU2 (nn x) x l1) i
  have hz2:=cU2 (nn f) f l1
  refine cK5 (es:=((L.filter (nn f)).map λs=>(f,s)).map xD) rfl (EF.to (P2 (m:=true) (fPr f) (U0 (ds:=L.map sbD) (A1 (i:=1) rfl)) (by rw[Aa3];unfold sizeLine;lia) λd M=>?_) (dD3 f L)) (by rw[Aa3,Aa3];unfold sizeLine;lia) ⟨.val (sbD f),rfl,?_⟩
  .obtain⟨g,hg,rfl⟩:=Aa8.mp M;have hgl:=l2 g hg;refine⟨_,D5,?_⟩;have J:LV.E K false (bC3 (spV K cN0) [] E0 (K7 (J7 1) (K7 (J7 0) S8))) [.val (sbD g),cap (.val (sbD f))] (oD (fOv (ahd 0 f) (ahd 0 g) 0)):=E6 (A5 (A1 (i:=1) rfl) (A5 (A1 (i:=0) rfl) B1)) ⟨f,g,by lia,by lia,by rw[aU2,aU2,l3 f U,l3 g hg],rfl,rfl⟩
   rw[dA1];have X:nn f g=(fOv (ahd 0 f) (ahd 0 g) 0).isNone:=rfl;cases ho:fOv (ahd 0 f) (ahd 0 g) 0 with
   | none=>
    rw[ho]at J X;rw[X,Ae (show(none:Option Nat).isNone=true from rfl)]
    exact⟨Q1 (cY7 J) rfl,o9 (A5 (A1 (i:=1) rfl) (A5 (A1 (i:=0) rfl) B1))⟩
   | some k=>
    rw[ho]at J X;rw[X,Ac (by simp)]
    exact Q1 (cY7 J) rfl
  .rw[dI9 L _ B,Ad2];rfl
 .rintro _ ⟨N,b3,rfl⟩;rw[Aa3,Cg];subst hL;have e1:(((arW m (2*m)).flatMap λf=>((arW m (2*m)).filter (nn f)).map λs=>(f,s)).map xD)=((prP m).map sbP).map pD:=by rw[Ae2];rfl
  have e2:(lpP m).map xD=((lpP m).map sbP).map pD:=by rw[Ae2];rfl
  rw[e1,e2];exact aO8 (cW0 (zs:=(prP m).map sbP) (A5 (K4 (i:=2) rfl) B1) (dW5 m h1) (dW3 m h1)) rfl
end
theorem sc_walk:D4 ["drawing", "outs", "colour", "walked", "coming", "place"] ["drawing", "outs", "colour"] (C3 bW5):=⟨rfl,rfl,rfl,by decide +kernel,rfl,by decide +kernel,by decide +kernel⟩
def cT (m:Nat)(dr tr:AA)(c:Nat):Nat->AB:=λp=>if p<m+3/\(3<=p\/p=c) then TT.chd dr tr c p else []
theorem bQ3 {m:Nat}{dr tr:AA}{c p:Nat}(hp:p<m+3):cT m dr tr c p=ch dr tr c p:=by
 unfold cT ch;by_cases h:3<=p\/p=c
 .rw[Ae ⟨hp,h⟩,Ae h]
 .rw[Ac (λz=>h z.2),Ac h]
def Wk (m:Nat)(dr tr:AA)(c:Nat):AB:=TT.wlk (cT m dr tr c) m [] (cT m dr tr c c)
def dJ1 (ds es:AD):Prop:=∃(m:Nat) (dr tr:AA) (c:Nat),Dw m dr tr/\c<3/\ds=[.tuple (dr.map tN),.tuple (tr.map tN),.int (c:Int)]/\es=nI (Wk m dr tr c)
theorem dD9 (g:Nat->AB)(k:Nat)(w:AB):TT.wlk g k w []=w:=by cases k <;> rfl
theorem cB2 (x:Nat)(r:AB):aI1 (nI (x::r)) (some 1) none=nI r:=by
 have h:=u7 (ds:=nI (x::r)) (n:=1) (by rw[C8];simp)
 have e:aI1 (nI (x::r)) (some 1) none=(nI (x::r)).drop 1:=h
 rw[e];rfl
section
variable {P:Program}{w:World}{K:Frag}{mg:Str->Option Value}{base:Heap}{a:Ad}
theorem dI2 (T:Tx K mg a):FnOk P w K mg base CX0 3 a.bW0 a.bX2 ["drawing", "outs", "colour"] (spL K dJ1):=by
 have y:FnOk P w K mg base CX0 2 _ _ _ _:=aS6 T
 refine T.dA6.ok sc_walk (cJ4 λds d ⟨_,_,_,_,_,_,e,_⟩=>by rw[e];rfl) (λcdv A outer s H vs Q E hr h=>?_)
 obtain⟨ds,S,es,hS,r,⟨m,z,tr,c,⟨m7,F,G,f,B⟩,M,rfl,rfl⟩,q⟩:=h;refine⟨_,(A6 (C0 (i:=3) sc_walk.nd rfl (Or.inl rfl) (C9 A4))
   (A6 (C0 (i:=4) sc_walk.nd rfl (Or.inl rfl) (C6 y (hr.mono (by decide)) rfl T.aH9 T.aC2.kp T.aJ1 .nil E2 (A0 (pv 0) (A0 (pv 1) (A0 (pv 2) (A0 (pv 2) A4))))))
   (A6 (bA1 Aj (B9 t5 (B8 N8 (by rfl) T.F9 Ah (A0 (pv 4) A4)) A7 (C7 _)) (A6 (C0 (i:=5) sc_walk.nd rfl (Or.inl rfl) (B6 D7 (pv 4) A7 (λ_ _=>rfl)))
   (A6 (E8 (J9 Ab1 Ag Af D9 (pv 3) (A0 (pv 5) A4)))
   (B0 (C0 (i:=4) sc_walk.nd rfl (Or.inl rfl) (B2 (J4 K) (C6 y (hr.mono (by decide)) rfl T.aH9 T.aC2.kp T.aJ1 .nil E2 (A0 (pv 0) (A0 (pv 1) (A0 (pv 5) (A0 (pv 2) A4))))) (S0 aU7 (pv 4) (X5 A7) X0)))))))
   (B0 (D2 (pv 3)))))),aP0 hS r ?_ q⟩
 obtain⟨rk,U⟩:=B.tree M
 change TT.dD2 (m+3) c (TT.og tr c) (cT m z tr c) rk at U
 refine B4 (K2 (J8 B1) ?_ (show 3<6 by decide))
 refine B4 (K2 (S4 (A5 (A1 rfl) (A5 (A1 rfl) (A5 (A1 rfl) (A5 (A1 rfl) B1)))) ⟨m,z,tr,c,c,⟨m7,F,G,f,B⟩,by lia,M,rfl,rfl⟩) ?_ (show 4<6 by decide))
 refine B4 (bL0 (λk ρ=>∃g Y x5,TT.cN2 (m+3) c (TT.og tr c) g Y/\TT.wlk (cT m z tr c) k g Y=Wk m z tr c/\k+g.length=m/\x5.nb=true/\ρ=[.val (.tuple (z.map tN)),.val (.tuple (tr.map tN)),.val (.int (c:Int)),.own (nI g),.own (nI Y),x5]) ⟨m,[],ch z tr c c,.no,?_,?_,by simp,rfl,rfl⟩ ?_)
 .rw[<- bQ3 (m:=m) (by lia)];exact TT.bZ0 U
 .rw[<- bQ3 (m:=m) (by lia)];rfl
 rintro k _ ⟨g,Y,x5,J,hW,hk,b5,rfl⟩;have hl:=TT.bN2 J;refine⟨_,D1 (U7 (O7 (A5 (K4 rfl) B1)) A9),?_⟩;rw[C8];cases Y with
 | nil=>
  rw[Ac (by simp)]
  refine cQ8 (ds:=nI g) rfl ?_;show nI g=nI (Wk m z tr c);rw[<- hW,dD9]
 | cons x r=>
  have hd:decide (((x::r).length:Int)>0)=true:=by simp
  rw[hd,Ae rfl];rw[Aw]at hl;have R:=J.lt x (by simp)
  obtain⟨D,rfl⟩:∃D,k=D+1:=⟨k-1,by lia⟩
  refine B4 (F8 (LV.E.imm (d:=.int (x:Int)) (E4 (K4 rfl) A9 rfl (M3 0 rfl rfl))) ?_);refine B4 (P5 rfl (A1 rfl) ?_ ?_)
  .rw[C8];unfold sizeLine;lia
  have X:=TT.cI3 U J
  have N:=TT.bN2 X
  refine K2 (bA3 (EF.e' (S4 (A5 (A1 rfl) (A5 (A1 rfl) (A5 (A1 rfl) (A5 (A1 rfl) B1)))) ⟨m,z,tr,x,c,⟨m7,F,G,f,B⟩,R.2,M,rfl,rfl⟩)) (EF.e' (cE8 (ds:=nI (x::r)) (K4 rfl) (aC0 A9) y0 (F5 _))) (F5 _) (P0 _ _ (F5 _)) ?_) ⟨D,by lia,g++[x],cT m z tr c x++r,.val (.int (x:Int)),X,hW,?_,rfl,?_⟩ (show 4<6 by decide)
  .rw[cB2,C8,C8,<- bQ3 (m:=m) R.2];simp only[Ab7,List.length_singleton]at N;unfold sizeLine;lia
  .rw[Ab7];simp;lia
  .rw[cB2,<- j4,bQ3 R.2,j4 g];rfl
end
theorem sc_first_row_from:D4 ["drawing", "outs", "place", "row", "child"] ["drawing", "outs", "place"] (C3 T7):=⟨rfl,rfl,rfl,by decide +kernel,rfl,by decide +kernel,by decide +kernel⟩
def cT1 (n:Nat)(ds:AD)(d:PyData):Prop:=∃(m:Nat) (dr tr:AA) (p:Nat) (wd:List Bool) (ps:AB),Dw m dr tr/\p<m+3/\(3<=p\/p=0)/\TT.Dfs (cT m dr tr 0) n (cT m dr tr 0 p) wd ps/\wd.length<=100/\ds=[.tuple (dr.map tN),.tuple (tr.map tN),.int (p:Int)]/\d=.str (sb wd)
def pc:Nat->AD->PyData->Prop
 | 0=>λ_ _=>False
 | n+1=>cT1 n
def rf (dr tr:AA)(p:Nat)(wd:List Bool)(x4:Sl):List Sl:=[.val (.tuple (dr.map tN)),.val (.tuple (tr.map tN)),.val (.int (p:Int)),.val (.str (sb wd)),x4]
theorem eF7 {m:Nat}{dr tr:AA}{p c:Nat}(D:Dw m dr tr)(hp:p<m+3)(h:c∈ch dr tr 0 p):c<m+3/\3<=c:=by
 obtain⟨F,G,f,B⟩:=D.bt;unfold ch at h;split at h
 .unfold TT.chd at h;obtain⟨h1,e⟩:=Cp.mp h;have y:c∈TT.trn dr p:=by
   rcases Aa0.mp h1 with h | h
   .exact Bx h
   .exact As h
  refine⟨cA4 B hp c y,?_⟩;unfold TT.s9 at e;simp at e;exact e.1
 .cases h
section
variable {P:Program}{w:World}{K:Frag}{mg:Str->Option Value}{base:Heap}{a:Ad}
theorem aG7 (T:Tx K mg a){n:Nat}(y:FnOk P w K mg base CX0 (n+2) a.N1 a.M9 ["drawing", "outs", "place"] (spV K (pc n))):FnOk P w K mg base CX0 (n+3) a.N1 a.M9 ["drawing", "outs", "place"] (spV K (cT1 n)):=by
 have z:FnOk P w K mg base CX0 2 _ _ _ _:=aS6 T
 refine T.T3.ok sc_first_row_from (T5 λds d ⟨_,_,_,_,_,_,_,_,_,_,_,e,_⟩=>by rw[e];rfl) (λcdv A N s H vs Q E hr h=>?_)
 obtain⟨ds,S,d,hS,r,⟨m,g,tr,p,wd,ps,D,hp,hp0,B,hl,rfl,rfl⟩,q⟩:=h;refine⟨_,(A6 (C0 (i:=3) sc_first_row_from.nd rfl (Or.inl rfl) E7)
   (A6 (G5 Aj rfl (P3 (C6 z (hr.mono (by lia)) rfl T.aH9 T.aC2.kp T.aJ1 .nil E2 (A0 (pv 0) (A0 (pv 1) (A0 (pv 2) (A0 A7 A4)))))) (C5 (i:=4) sc_first_row_from.nd rfl (Or.inl rfl)) (B0 (bJ1 (i:=3) sc_first_row_from.nd rfl (Or.inl rfl) (B2 J6 (B2 J6 E7 (C6 y hr rfl T.m8 T.T3.kp T.t6 .nil E2 (A0 (pv 0) (A0 (pv 1) (A0 (pv 4) A4))))) E7) cC1)))
   (B0 (D2 (pv 3))))),K1 hS r ?_ q⟩
 have ec:cT m g tr 0 p=ch g tr 0 p:=bQ3 hp
 rw[ec]at B;refine B4 (F8 (d:=.str (sb [])) (bA8 [] rfl) ?_);refine B4 (N2 (U0 (ds:=nI (ch g tr 0 p)) (EF.e' (S4 (A5 (A1 rfl) (A5 (A1 rfl) (A5 (A1 rfl) (A5 A9 B1)))) ⟨m,g,tr,p,0,D,hp,by decide,rfl,rfl⟩))) (λj ρ=>∃U k X R,U.nb=true/\wd=k++X/\TT.Dfs (cT m g tr 0) n ((ch g tr 0 p).drop j) X R/\ρ=rf g tr p k U) ⟨.no,[],wd,ps,rfl,rfl,B,rfl⟩ ?_ ?_)
 .rintro j d _ hj ⟨U,k,X,R,b4,rfl,Y,rfl⟩;obtain⟨c,F,rfl⟩:∃c,(ch g tr 0 p)[j]? = some c/\d=.int (c:Int):=by
   unfold nI at hj;rw[Aa9]at hj;cases e:(ch g tr 0 p)[j]? with
   | none=>rw[e]at hj;cases hj
   | some c=>rw[e]at hj;exact⟨c,rfl,(Ab4 hj).symm⟩
  obtain⟨M,J⟩:=Ab0.mp F;rw[Ao M,J]at Y;obtain⟨cl,c3⟩:=eF7 D hp (Ar F);cases Y with
  | @cons n _ _ wc ws pq ps' g1 g2=>
   refine⟨_,D5,?_⟩;have hlen:k.length+(wc.length+ws.length+2)<=100:=by simp at hl;lia
   refine cU1 rfl (b:=[true]++wc++[false]) (LV.E.imm (m:=false) (bK3 (bK3 (bA8 [true] rfl) (E6 (A5 (A1 rfl) (A5 (A1 rfl) (A5 (A1 rfl) B1))) ⟨m,g,tr,c,wc,pq,D,cl,.inl c3,g1,by lia,rfl,rfl⟩) (by simp;lia)) (bA8 [false] rfl) (by simp;lia))) (by simp;lia) ?_
   exact⟨.val (.int (c:Int)),k++([true]++wc++[false]),ws,ps',rfl,by simp,g2,rfl⟩
 rintro _ ⟨U,k,X,R,b4,rfl,Y,rfl⟩
 have:(ch g tr 0 p).drop (nI (ch g tr 0 p)).length=[]:=List.drop_eq_nil_of_le (by rw[C8];exact Aa7 _)
 rw[this]at Y;cases Y;exact M8 (A1 rfl) (by rw[Bl])
theorem bP3 (T:Tx K mg a):∀n,FnOk P w K mg base CX0 (n+3) a.N1 a.M9 ["drawing", "outs", "place"] (spV K (cT1 n))
 | 0=>aG7 T ⟨λ_ _ _ _ ⟨_,_,_,_,_,z,_⟩=>z.elim,λ_ _ _ _ _ _ _ _ _ _ _ _ _ ⟨_,_,_,_,_,z,_⟩=>z.elim⟩
 | n+1=>aG7 T (bP3 T n)
end
theorem sc_second_row:D4 ["drawing", "outs", "row", "place", "coming"] ["drawing", "outs"] (C3 u3):=⟨rfl,rfl,rfl,by decide +kernel,rfl,by decide +kernel,by decide +kernel⟩
def eB6 (ds:AD)(d:PyData):Prop:=∃(F G:Nat->Nat) (m:Nat) (f:Nat->Nat) (dr tr:AA),m<=7/\TT.Bt F G m f dr tr/\ds=[.tuple (dr.map tN),.tuple (tr.map tN)]/\d=.str (sb (TT.D3 G m))
def fsr (x:Nat):PyData->Option PyData
 | .tuple [.int a,.int b,.int c]=>if c=(x:Int) then some (.tuple [.int a,.int b,.int c]) else none
 | _=>none
theorem cG8 (x:Nat):∀(t:AA),(∀r∈t,∃a b c,r=[a,b,c])->((t.map tN).filterMap (fsr x)).length=(t.filter λr=>r.getD 2 0==x).length
 | [],_=>rfl
 | r::t,h=>by
  have z:=cG8 x t λr g=>h r (Ad4 _ g)
  obtain⟨a,b,c,rfl⟩:=h r (Az ..);rw[Ac7,Ak,List.filter_cons];have e:fsr x (tN [a,b,c])=if(c:Int)=(x:Int) then some (tN [a,b,c]) else none:=rfl;rw[e];by_cases y:c=x
  .subst y;rw[Ae rfl,Ae (by simp)]
   simpa using z
  .rw[Ac (by lia),Ac (by simpa using y)]
   exact z
theorem cF9 {F G:Nat->Nat}{m:Nat}{f:Nat->Nat}{d t:AA}(B:TT.Bt F G m f d t):∀r∈t,∃a b c,r=[a,b,c]:=λr g=>by
 obtain⟨j,y⟩:=List.mem_iff_getElem?.mp g;have s:j<m:=by rw[<- B.tl];exact(Ab0.mp y).1
 obtain⟨v,z,e⟩:=B.N.surj (j+3) (by lia)
 have k:3<=v:=by
  have:=B.N.lo (by lia) z
  lia
 have h:=B.tr v k z
 rw[show f v-3=j by lia,y]at h
 exact⟨_,_,_,Ab4 h⟩
theorem eD8 {F G:Nat->Nat}{m:Nat}{f:Nat->Nat}{dr tr:AA}(B:TT.Bt F G m f dr tr):Wk m dr tr 0=(List.range m).map λi=>f (i+3):=by
 obtain⟨n,h⟩:=B.dfs;have e:=TT.dC7 h 0 [] [];have z:((List.range m).map λi=>f (i+3)).length=m:=by simp
 rw[z,Nat.zero_add,Bl]at e;have y:cT m dr tr 0 0=TT.chd dr tr 0 0:=Ae ⟨by lia,.inr rfl⟩
 unfold Wk;rw[y];exact e
def rs2 (dr tr:AA)(wd:List Bool)(x3 x4:Sl):List Sl:=[.val (.tuple (dr.map tN)),.val (.tuple (tr.map tN)),.val (.str (sb wd)),x3,x4]
section
variable {P:Program}{w:World}{K:Frag}{mg:Str->Option Value}{base:Heap}{a:Ad}
theorem cI7 (T:Tx K mg a):FnOk P w K mg base CX0 4 a.v4 a.u4 ["drawing", "outs"] (spV K eB6):=by
 have Y:FnOk P w K mg base CX0 3 _ _ _ _:=dI2 T
 refine T.aN8.ok sc_second_row (T5 λds d ⟨_,_,_,_,_,_,_,_,e,_⟩=>by rw[e];rfl) (λcdv A outer s H vs Q E hr h=>?_)
 obtain⟨ds,S,d,hS,r,⟨F,G,m,f,X,tr,hm,B,rfl,rfl⟩,q⟩:=h;refine⟨_,(A6 (C0 (i:=2) sc_second_row.nd rfl (Or.inl rfl) E7)
   (A6 (G5 Aj rfl (P3 (C6 Y (hr.mono (by decide)) rfl T.dW7 T.dA6.kp T.dX8 .nil E2 (A0 (pv 0) (A0 (pv 1) (A0 A7 A4))))) (C5 (i:=3) sc_second_row.nd rfl (Or.inr rfl)) (A6 (u9 (i:=4) sc_second_row.nd rfl rfl (T:=["triple"]) (N':=["triple", "place"]) (is:=[3]) rfl (.of rfl rfl rfl (by exact⟨rfl,trivial⟩) rfl rfl rfl (by exact⟨⟨_,rfl,by first | exact .inl rfl | exact .inr rfl,by first | exact .inl rfl | exact .inr rfl⟩,trivial⟩)) (aJ5 (pv 1)) (O8 (by decide)) λ_ _ _ _=>⟨(C5 (i:=0) (by decide +kernel:(["triple", "place"]:AG).Nodup) rfl (Or.inl rfl)),(V9 (B9 i5 (B6 (ixK K) (pv 0) A7 (λ_ _=>rfl)) (pv 1) (C7 _))),(pv 0)⟩)
   (B0 (bJ1 (i:=2) sc_second_row.nd rfl (Or.inl rfl) (B2 J6 (B2 aN0 E7 (B8 (T9 K) (by rfl) T.F9 Ah (A0 (pv 4) A4))) E7) cC1))))
   (B0 (D2 (B2 J6 (pv 2) (B2 aN0 E7 (B2 L4 (B8 (T9 K) (by rfl) T.F9 Ah (A0 (pv 1) A4)) (J9 PySem.F.plainAttrs_str PySem.F.slot_str_count PySem.F.type_str_count R4 (pv 2) (A0 E7 A4))))))))),K1 hS r ?_ q⟩
 have R:=B.R
 have D:Dw m X tr:=⟨hm,F,G,f,B⟩
 have hW:=eD8 B
 have N:∀i,i<=m->(TT.wrd G i).length=TT.pv G i+i:=λi hi=>TT.bJ0 i λj k=>R.g1 j (by lia)
 refine B4 (F8 (d:=.str (sb [])) (bA8 [] rfl) ?_);refine B4 (N2 (U0 (ds:=nI (Wk m X tr 0)) (EF.e' (S4 (A5 (A1 rfl) (A5 (A1 rfl) (A5 A9 B1))) ⟨m,X,tr,0,D,by decide,rfl,rfl⟩))) (λj ρ=>∃x3 J,x3.nb=true/\J.nb=true/\ρ=rs2 X tr (TT.wrd G j) x3 J) ⟨.no,.no,rfl,rfl,rfl⟩ ?_ ?_)
 .rintro j d _ k ⟨x3,J,b3,b4,rfl⟩;rw[hW]at k;obtain⟨U,rfl⟩:j<m/\d=.int (f (j+3):Nat):=by
   unfold nI at k;rw[Ae2,Aa9]at k;by_cases hz:j<m
   .rw[List.getElem?_range hz]at k;exact⟨hz,(Ab4 k).symm⟩
   .rw[Ad6 (by simp;lia)]at k;cases k
  refine⟨_,D5,?_⟩;have cm:=P2 (K:=K) (m:=true) (ρ:=rs2 X tr (TT.wrd G j) (.val (.int (f (j+3):Nat))) J) (n:=1) (is:=[3]) (g:=V6 0) (tt:=aS4 (tOp rEq (tOp (rIx K) (J7 0) (tC (.int 2))) (J7 1))) (te:=J7 0) (fsr (f (j+3))) (aW6 (ds:=tr.map tN) (A1 (i:=1) rfl)) (by rw[Aa3,B.tl];unfold sizeLine;lia) (λd hd=>by
   obtain⟨r,hr,rfl⟩:=Aa8.mp hd;obtain⟨x,y,z,rfl⟩:=cF9 B r hr;refine⟨_,D5,?_⟩;have ht:=D1 (K:=K) (aD5 (m:=false) (E4 (K:=K) (ρ:=(slC (rs2 X tr (TT.wrd G j) (.val (.int (f (j+3):Nat))) J) 1 [3]).set 0 (.val (tN [x,y,z]))) (d':=.int (z:Int)) (A1 (i:=0) rfl) (A9 (i:=2)) rfl (M3 2 rfl rfl)) (A1 (i:=1) (d:=.int (f (j+3):Nat)) rfl));have e:fsr (f (j+3)) (tN [x,y,z])=if(z:Int)=(f (j+3):Nat) then some (tN [x,y,z]) else none:=rfl;rw[e];by_cases hb:(z:Int)=(f (j+3):Nat)
   .rw[Ae hb];rw[Bu hb]at ht;exact⟨ht,A1 rfl⟩
   .rw[Ac hb];rw[Ba hb]at ht;exact ht)
  refine B4 (K2 cm ?_ (show 4<5 by decide))
  have hc:=cG8 (f (j+3)) tr (cF9 B)
  rw[B.cnt2 U]at hc;have hg:=R.g1 j U;have hg2:=R.g2 j U;have hf2:=R.f2 j U;have hle:=(R.pvF j (by lia))
  refine cU1 (i:=2) (a:=TT.wrd G j) (b:=TT.ds (G j-TT.pv G j)++[true]) rfl (LV.E.imm (m:=false) ?_) ?_ ?_
  .have:=bK3 (K:=K) (m:=false) (ρ:=(rs2 X tr (TT.wrd G j) (.val (.int (f (j+3):Nat))) J).set 4 (.own ((tr.map tN).filterMap (fsr (f (j+3)))))) (cO9 (bA8 [false] rfl) (O7 (A5 (K4 (i:=4) rfl) B1)) (by lia)) (bA8 [true] rfl) (by rw[Bs,hc];show _+1<=_;lia)
   rw[hc,Ac8]at this;exact this
  .rw[N j (by lia),Ab7,TT.bT8];show _+(_+1)<=_;lia
  .exact⟨.val (.int (f (j+3):Nat)),.own _,rfl,rfl,by show _=rs2 X tr (TT.wrd G j++TT.ds (G j-TT.pv G j)++[true]) _ _;rw[Ad7];rfl⟩
 rintro _ ⟨x3,J,b3,b4,rfl⟩;have el:(nI (Wk m X tr 0)).length=m:=by rw[C8,hW];simp
 rw[el];have hg:=N m (Aa7 _);have hle:=R.pvF m (Aa7 _);have M:(TT.wrd G m).count false=TT.pv G m:=TT.aK9 m λj k=>R.g1 j k
 have htl:(tr.map tN).length=m:=by rw[Aa3,B.tl]
 refine M8 (d:=.str (sb (TT.wrd G m++List.replicate (((tr.map tN).length:Int)-((TT.wrd G m).count false:Nat)).toNat false))) (LV.E.imm (m:=false) (bK3 (A1 rfl) (cO9 (bA8 [false] rfl) (L9 (O7 (A5 (A1 (d:=.tuple (tr.map tN)) rfl) B1)) (cY5 (A1 rfl) (bA8 [false] rfl))) (by lia)) (by rw[hg,Bs];lia))) ?_
 rw[M,htl];unfold TT.D3 TT.ds;rw[show((m:Int)-(TT.pv G m:Nat)).toNat=m-TT.pv G m by lia]
end
set_option maxHeartbeats 1000000
theorem bV3:D4 ["drawing", "outs"] ["drawing", "outs"] (C3 aP1):=⟨rfl,rfl,rfl,by decide +kernel,rfl,by decide +kernel,by decide +kernel⟩
section
variable {P:Program}{w:World}{K:Frag}{mg:Str->Option Value}{base:Heap}{a:Ad}
theorem bU8 (T:Tx K mg a):FnOk P w K mg base CX0 11 a.aO6 a.aQ5 ["drawing", "outs"] (spV K dP2):=by
 have y:FnOk P w K mg base CX0 10 _ _ _ _:=bP3 T 7
 have z:FnOk P w K mg base CX0 4 _ _ _ _:=cI7 T
 refine T.bE1.ok bV3 (T5 λds d ⟨_,_,_,_,_,_,_,_,e,_⟩=>by rw[e];rfl) (λM A U s H vs Q E J h=>?_)
 obtain⟨ds,S,d,D,r,⟨F,G,m,f,Y,tr,X,B,rfl,rfl⟩,q⟩:=h;refine⟨_,(B0 (D2 (O1 (A0 (C6 y (J.mono (by decide)) rfl T.m8 T.T3.kp T.t6 .nil E2 (A0 (pv 0) (A0 (pv 1) (A0 A7 A4)))) (A0 (C6 z (J.mono (by decide)) rfl T.bI6 T.aN8.kp T.bL9 .nil E2 (A0 (pv 0) (A0 (pv 1) A4))) A4))))),K1 D r ?_ q⟩
 obtain⟨n,g⟩:=B.dfs;have g:=g.len;have hl:((List.range m).map λi=>f (i+3)).length=m:=by simp
 rw[hl]at g;have g:=g.mono (n':=7) X;have N:cT m Y tr 0 0=TT.chd Y tr 0 0:=Ae ⟨by lia,.inr rfl⟩
 have k:(TT.D3 F m).length<=100:=by
  rw[TT.Y6 (λj hj=>B.R.f1 j hj) (B.R.pvF m (Aa7 _)).1];lia
 exact M8 (d:=two (TT.D3 F m) (TT.D3 G m)) (o9 (A5 (E6 (A5 (A1 rfl) (A5 (A1 rfl) (A5 A9 B1))) ⟨m,Y,tr,0,TT.D3 F m,_,⟨X,F,G,f,B⟩,by lia,.inr rfl,by rw[N];exact g,k,rfl,rfl⟩) (A5 (E6 (A5 (A1 rfl) (A5 (A1 rfl) B1)) ⟨F,G,m,f,Y,tr,X,B,rfl,rfl⟩) B1))) rfl
end
end K48
namespace LH
open PySem PySem.SetTable
def stp (mask i:Nat):Nat:=(i*5+1) % (mask+1)
def itr (mask:Nat):Nat->Nat->Nat
 | 0,i=>i
 | n+1,i=>itr mask n (stp mask i)
def Full (mask:Nat):Prop:=∀i,i<=mask->∀j,j<=mask->∃n,n<=mask/\itr mask n i=j
theorem full7:Full 7:=by
 have:∀i,i<8->∀j,j<8->∃n,n<8/\itr 7 n i=j:=by decide +kernel
 intro i hi j y;obtain⟨n,h1,e⟩:=this i (by lia) j (by lia)
 exact⟨n,by lia,e⟩
theorem full31:Full 31:=by
 have:∀i,i<32->∀j,j<32->∃n,n<32/\itr 31 n i=j:=by decide +kernel
 intro i hi j y;obtain⟨n,h1,e⟩:=this i (by lia) j (by lia)
 exact⟨n,by lia,e⟩
def run (mask:Nat):Nat->Nat->Nat->Nat
 | 0,i,_=>i
 | n+1,i,p=>run mask n (leap mask i p).1 (leap mask i p).2
theorem dG0 (e i p:Nat):(leap e i p).1<=e:=Dn (Nat.mod_lt _ (by lia))
theorem eA1 (e:Nat):∀n i,run e n i 0=itr e n i
 | 0,_=>rfl
 | n+1,i=>by
  show run e n ((i*5+1+0 / 32) % (e+1)) (0 / 32)=itr e n ((i*5+1) % (e+1))
  rw[Nat.zero_div,Nat.add_zero];exact eA1 e n _
theorem cG6 (e:Nat):∀k i p,p<32^k->∃i',(i<=e->i'<=e)/\∀n,run e (k+n) i p=run e n i' 0
 | 0,i,p,h=>by
  obtain rfl:p=0:=by simp at h;lia
  exact⟨i,id,λn=>by rw[Nat.zero_add]⟩
 | k+1,i,p,h=>by
  obtain⟨i',h1,y⟩:=cG6 e k (leap e i p).1 (p / 32) (by
   rw[Nat.pow_succ]at h;exact Nat.div_lt_of_lt_mul (by lia))
  refine⟨i',λ_=>h1 (dG0 _ _ _),λn=>?_⟩
  rw[show k+1+n=(k+n)+1 by lia]
  exact y n
theorem cG4 {mask:Nat}(F:Full mask){i p j:Nat}(hi:i<=mask)(hp:p<2^64)(z:j<=mask):∃n,n<=mask+13/\run mask n i p=j:=by
 obtain⟨r,h1,e⟩:=cG6 mask 13 i p (Ab8 hp (by decide))
 obtain⟨n,g,y⟩:=F r (h1 hi) j z;exact⟨13+n,by lia,by rw[e,eA1,y]⟩
def adv (t:SetTable):Nat->Probe->Probe
 | 0,p=>p
 | n+1,p=>adv t n (t.advance p)
def beg (mask i p:Nat)(d:Option Nat):Probe:={j:=i,more:=runEnd mask i-i,i,perturb:=p,dummy:=d}
theorem cM2 (e i:Nat):runEnd e i-i<=9:=by unfold runEnd;split <;> lia
theorem cB9 (t:SetTable):∀(k j i p:Nat) (d:Option Nat),adv t (k+1) {j,more:=k,i,perturb:=p,dummy:=d}=beg t.mask (leap t.mask i p).1 (leap t.mask i p).2 d
 | 0,j,i,p,d=>rfl
 | k+1,j,i,p,d=>by
  show adv t (k+1) (t.advance _)=_
  have:t.advance {j,more:=k+1,i,perturb:=p,dummy:=d}={j:=j+1,more:=k,i,perturb:=p,dummy:=d}:=by
   unfold advance;rw[Ae (show k+1>0 by lia)];rfl
  rw[this];exact cB9 t k (j+1) i p d
theorem cG9 (t:SetTable):∀a b p,adv t (a+b) p=adv t b (adv t a p)
 | 0,b,p=>by rw[Nat.zero_add];rfl
 | a+1,b,p=>by rw[show a+1+b=(a+b)+1 by lia];exact cG9 t a b _
theorem bT0 (t:SetTable):∀n i p d,∃k,k<=10*n/\(adv t k (beg t.mask i p d)).j=run t.mask n i p
 | 0,i,p,d=>⟨0,by lia,rfl⟩
 | n+1,i,p,d=>by
  obtain⟨k,h1,e⟩:=bT0 t n (leap t.mask i p).1 (leap t.mask i p).2 d
  have:=cM2 t.mask i
  refine⟨(runEnd t.mask i-i+1)+k,by lia,?_⟩
  rw[cG9,show adv t (runEnd t.mask i-i+1) (beg t.mask i p d)=_ from cB9 t _ _ _ _ _]
  exact e
def Rch (t:SetTable)(p:Probe)(n:Nat):Prop:=p.dummy=none/\∃k,k<=n/\t.slot (adv t k p).j=.empty
theorem bK2 {t:SetTable}{j:Nat}(e:t.dummies = #[])(h:j∉t.place):t.slot j=.empty:=by
 unfold slot
 have:¬(t.place[below t.place j]? == some j)=true:=λz=>h (Array.mem_of_getElem? (beq_iff_eq.mp z))
 rw[Ac this,e,Ac];unfold has;simp
theorem bX9 {t:SetTable}{j:Nat}(e:t.dummies = #[]):t.slot j=.empty\/∃i,t.place[i]? = some j/\t.slot j=.live i:=by
 by_cases h:t.place[below t.place j]? = some j
 .exact .inr ⟨_,h,by unfold slot;rw[Ae (beq_iff_eq.mpr h)]⟩
 .refine .inl ?_;unfold slot;rw[Ac (λz=>h (beq_iff_eq.mp z)),e,Ac]
  unfold has;simp
theorem rch_start {t:SetTable}(F:Full t.mask)(r:t.dummies = #[]){j:Nat}(g:j<=t.mask)(h:j∉t.place)(x:Int):Rch t (t.probeStart x) (10*(t.mask+13)):=by
 have z:bits x<2^64:=by unfold bits;lia
 obtain⟨n,h1,e⟩:=cG4 F (i:=bits x % (t.mask+1)) (Dn (Nat.mod_lt _ (by lia))) z g
 obtain⟨k,s,y⟩:=bT0 t n (bits x % (t.mask+1)) (bits x) none;refine⟨rfl,k,by lia,?_⟩
 have:t.probeStart x=beg t.mask (bits x % (t.mask+1)) (bits x) none:=rfl
 rw[this,y,e];exact bK2 r h
theorem cL6 (t:SetTable)(p:Probe):(t.advance p).dummy=p.dummy:=by
 unfold advance;split <;> rfl
inductive Mt (t:SetTable)(n:Nat):Met->Prop
 | emp {j}:Mt t n (.empty j none)
 | cand {j i next n'}:t.slot j=.live i->t.place[i]? = some j->n'<n->Rch t next n'->Mt t n (.candidate j i next)
theorem cR7 {t:SetTable}(r:t.dummies = #[])(f:Nat->Int)(h:Int):∀(fuel n:Nat) (p:Probe),Rch t p n->n<fuel->∃m,probe.go t f h fuel p=some m/\Mt t n m
 | 0,n,p,_,hf=>absurd hf (by lia)
 | fuel+1,n,p,⟨hn,k,hk,he⟩,hf=>by
  unfold probe.go;rcases bX9 (j:=p.j) r with e | ⟨i,g,z⟩
  .rw[e];exact⟨_,rfl,by rw[hn];exact .emp⟩
  .rw[z];have y:∃n',n=n'+1/\Rch t (t.advance p) n':=by
    cases k with
    | zero=>rw[show adv t 0 p=p from rfl,z]at he;cases he
    | succ k=>exact⟨n-1,by lia,by rw[cL6];exact hn,k,by lia,he⟩
   obtain⟨n',rfl,y⟩:=y;dsimp only;split
   .exact⟨_,rfl,.cand z g (by lia) y⟩
   .obtain⟨m,h1,s⟩:=cR7 r f h fuel n' _ y (by lia)
    refine⟨m,h1,?_⟩;cases s with
    | emp=>exact .emp
    | cand a b c d=>exact .cand a b (by lia) d
theorem probe_met {t:SetTable}(e:t.dummies = #[])(f:Nat->Int)(h:Int){p:Probe}{n:Nat}(y:Rch t p n)(z:n<=10*(t.mask+13)):∃m,t.probe f h p=some m/\Mt t n m:=
 cR7 e f h _ n p y (by unfold turns;lia)
theorem cN7 {α:Type}:∀{l l':List α},l.Nodup->(∀x∈l,x∈l')->l.length<=l'.length:=λ{l l'} y r=>by
 classical
 induction l generalizing l' with
 | nil=>simp
 | cons a l k=>
  have z:=r a Az
  rw[Aa5]at y
  have:=k (l':=l'.erase a) y.2 (λx g=>(List.mem_erase_of_ne (λ(e:x=a)=>y.1 (e▸g))).mpr (r x (Ad4 _ g)))
  rw[Cv z]at this
  have:=Dd z
  simp;lia
theorem place_free {t:SetTable}(h:t.place.size<=t.mask):∃j,j<=t.mask/\j∉t.place:=by
 apply Classical.byContradiction
 intro r
 have:=cN7 (l:=List.range (t.mask+1)) (l':=t.place.toList) Cs (λx e=>by
  have e:=Ab5.mp e
  exact Classical.byContradiction λz=>r ⟨x,by lia,λy=>z (Array.mem_toList_iff.mpr y)⟩)
 rw[Bo,Ap]at this
 lia
theorem dA2 {α β:Type}(f:α->Option β):∀L:List α,(∀x∈L,f x≠none)->(L.filterMap f).length=L.length
 | [],_=>rfl
 | x::L,h=>by
  cases e:f x with
  | none=>exact absurd e (h x Az)
  | some y=>rw[Ak,e];simp[dA2 f L λz r=>h z (Ad4 _ r)]
theorem aO4 {α β:Type}{f g:α->Option β}:∀{L:List α},(∀x∈L,f x=g x)->L.filterMap f=L.filterMap g
 | [],_=>rfl
 | x::L,h=>by rw[Ak,Ak,h x Az,aO4 λz e=>h z (Ad4 _ e)]
theorem cO4 {β:Type}{f f':Nat->Option β}{j:Nat}{k:β}(s:f j=none)(h1:f' j=some k)(r:∀x,x≠j->f' x=f x):∀{L:AB},L.Nodup->j∈L->(L.filterMap f').Perm (k::L.filterMap f)
 | [],_,h=>by cases h
 | x::L,nd,h=>by
  rw[Aa5]at nd;rw[Ak,Ak];by_cases e:x=j
  .subst e;rw[h1,s,aO4 (g:=f) λz Y=>r z λe=>nd.1 (e▸Y)]
  .rw[r x e];have m:=cO4 s h1 r nd.2 ((Aa1.mp h).resolve_left λz=>e z.symm)
   cases f x with
   | none=>exact m
   | some y=>exact(m.cons y).trans (List.Perm.swap _ _ _)
def own (mask:Nat)(o:Array (Option Nat)):AB:=(List.range (mask+1)).filterMap λj=>o.getD j none
theorem bC7 (y:Nat)(o:Array (Option Nat)){j:Nat}(z:(o.getD j (some 0)).isNone=true):∀(n fuel i p:Nat),run y n i p=j->n<fuel->∃j',layClean.free y o fuel i p=some j'/\(o.getD j' (some 0)).isNone=true
 | n,0,i,p,_,h=>absurd h (by lia)
 | n,fuel+1,i,p,hr,h=>by
  unfold layClean.free;cases e:(List.range (runEnd y i+1-i)).find? λk=>(o.getD (i+k) (some 0)).isNone with
  | some k=>
   have:=List.find?_some e
   exact⟨i+k,rfl,this⟩
  | none=>
   cases n with
   | zero=>
    have hi:i=j:=hr
    have:=List.find?_eq_none.mp e 0 (Ab5.mpr (by unfold runEnd;split <;> lia))
    rw[Nat.add_zero,hi]at this;exact absurd z this
   | succ n=>exact bC7 y o z n fuel _ _ hr (by lia)
theorem getD_none {o:Array (Option Nat)}{j:Nat}(h:(o.getD j (some 0)).isNone=true):j<o.size/\o[j]? = some none:=by
 rw[Bi]at h;cases e:o[j]? with
 | none=>rw[e]at h;cases h
 | some x=>
  rw[e]at h;cases x with
  | none=>exact⟨(Array.getElem?_eq_some_iff.mp e).1,rfl⟩
  | some _=>cases h
theorem bM8 {mask:Nat}(F:Full mask):∀(hs:AC) (o:Array (Option Nat)) (k:Nat),o.size=mask+1->(own mask o).Perm (List.range k)->k+hs.length<=mask ->
  ∃o',hs.foldl (λacc h=>do
   let (owner,k) <- acc
   let j <- layClean.free mask owner (turns mask) (bits h % (mask+1)) (bits h)
   pure (owner.setIfInBounds j (some k),k+1)) (some (o,k))=some (o',k+hs.length)/\o'.size=mask+1/\(own mask o').Perm (List.range (k+hs.length))
 | [],o,k,h1,h2,_=>⟨o,rfl,h1,h2⟩
 | h::hs,o,k,h1,h2,h3=>by
  rw[Aw]at h3;have r:∃j,j<=mask/\(o.getD j (some 0)).isNone=true:=by
   apply Classical.byContradiction
   intro D
   have:=dA2 (λj=>o.getD j none) (List.range (mask+1)) (λx z e=>D ⟨x,by have:=Ab5.mp z;lia,by
    have z:=Ab5.mp z
    rw[Bi,Cu (by lia)]at e ⊢
    have e:o[x]=none:=e
    show(o[x]).isNone=true
    rw[e];rfl⟩)
   have s:=h2.length_eq
   unfold own at s;rw[this,Bo,Bo]at s
   lia
  obtain⟨j,B,P⟩:=r;have Q:bits h<2^64:=by unfold bits;lia
  obtain⟨n,h4,U⟩:=cG4 F (i:=bits h % (mask+1)) (Dn (Nat.mod_lt _ (by lia))) Q B
  obtain⟨y,J,M⟩:=bC7 mask o P n (turns mask) _ _ U (by unfold turns;lia)
  obtain⟨N,R⟩:=getD_none M;have g:(o.setIfInBounds y (some k)).size=mask+1:=by rw[Array.size_setIfInBounds];exact h1
  have hp:(own mask (o.setIfInBounds y (some k))).Perm (List.range (k+1)):=by
   refine(cO4 (f:=λj=>o.getD j none) (j:=y) (k:=k) ?_ ?_ ?_ Cs (Ab5.mpr (by lia))).trans ?_
   .show o.getD y none=none
    rw[Bi,R];rfl
   .show(o.setIfInBounds y (some k)).getD y none=some k
    rw[Bi,Array.getElem?_setIfInBounds_self_of_lt N];rfl
   .intro x z;show(o.setIfInBounds y (some k)).getD x none=o.getD x none;rw[Bi,Bi,Array.getElem?_setIfInBounds_ne (λe=>z e.symm)]
   .refine(h2.cons k).trans ?_;rw[Bd];exact(List.perm_append_singleton _ _).symm
  obtain⟨o',m,Y,X⟩:=bM8 F hs _ (k+1) g hp (by lia)
  refine⟨o',?_,Y,by rw[Aw,show k+(hs.length+1)=k+1+hs.length by lia];exact X⟩
  rw[List.foldl_cons,Aw,show k+(hs.length+1)=k+1+hs.length by lia,<- m]
  congr 1
  show(layClean.free mask o (turns mask) (bits h % (mask+1)) (bits h)).bind _=_
  rw[J];rfl
theorem laid_some {mask:Nat}(F:Full mask)(r:Array Int)(M:r.size<=mask)(e y:Nat)(s z:Bool):∃t order,laid mask e y s z r=some (t,order)/\t.mask=mask/\t.dummies = #[]/\t.place.size=r.size/\order.toList.Perm (List.range r.size):=by
 obtain⟨g,m,J,k⟩:=bM8 F r.toList (Array.replicate (mask+1) none) 0 (by simp) (by
  have:own mask (Array.replicate (mask+1) none)=[]:=by
   unfold own;rw[List.filterMap_eq_nil_iff];intro x U;rw[Bi,Array.getElem?_replicate,Ae (Ab5.mp U)];rfl
  rw[this];exact List.Perm.refl _) (by rw[Ap];lia)
 rw[Nat.zero_add,Ap]at m k;have X:layClean mask r=some g:=by
  unfold layClean;rw[<- Array.foldl_toList,m];rfl
 have Y:(((List.range (mask+1)).filterMap λj=>(g.getD j none).map (j,·)).map (·.2))=own mask g:=by
  rw[List.map_filterMap];refine aO4 λx _=>?_
  cases g.getD x none <;> rfl
 refine⟨_,_,by unfold laid;rw[X];rfl,rfl,rfl,?_,?_⟩
 .show((List.map _ _).toArray).size=_
  rw[Ab2,Aa3,<- Aa3 (f:=(·.2)),Y,k.length_eq,Bo]
 .show((List.map _ _).toArray).toList.Perm _
  rw[List.toList_toArray,Y];exact k
end LH
namespace L2
open PySem PySem.Spec PyProof.Rows
structure TabOk (t:SetTable)(n:Nat):Prop where
 dm:t.dummies = #[]
 sz:t.place.size=n
 mq:(t.mask=7/\n<=4)\/(t.mask=31/\n<=17)
theorem TabOk.full {t:SetTable}{n:Nat}(h:TabOk t n):LH.Full t.mask:=by
 rcases h.mq with h | h <;> rw[h.1]
 .exact LH.full7
 .exact LH.full31
theorem TabOk.fits {t:SetTable}{n:Nat}(h:TabOk t n):t.fits n=true:=by
 unfold SetTable.fits SetTable.fill;rw[h.dm,h.sz]
 have:=h.mq
 simp;lia
theorem TabOk.rch {t:SetTable}{n:Nat}(h:TabOk t n)(x:Int):LH.Rch t (t.probeStart x) (10*(t.mask+13)):=by
 obtain⟨j,h1,e⟩:=LH.place_free (t:=t) (by rw[h.sz];have:=h.mq;lia)
 exact LH.rch_start h.full h.dm h1 e x
theorem TabOk.put {t:SetTable}{n:Nat}(h:TabOk t n)(j:Nat):(t.put j).1.dummies = #[]/\(t.put j).1.place.size=n+1/\(t.put j).1.mask=t.mask:=by
 unfold SetTable.put;refine⟨?_,?_,rfl⟩
 .show(if SetTable.has t.dummies j then _ else t.dummies) = #[]
  rw[h.dm];rfl
 .show(SetTable.insertAt t.place _ j).size=_
  rw[<- Array.length_toList,(SetTable.insertAt_perm _ _ _).length_eq];simp[h.sz]
section
variable {prog:Program}{w:World}{A:Around}{E:Dy}{s:Shared}
theorem bZ8 {h:Heap}{S:Addr}{o:Obj}{es:Array (Int×Value)}{ep:Nat}{t:SetTable}(ho:h.get? S=some o)(y:o.data=.set es ep t)(e:Array (Int×Value))(t':SetTable):(h.update S (Obj.putSet e t')).get? S=some {o with data:=.set e (ep+1) t'}:=by
 have:=De (Obj.putSet e t') ho (by rw[putSet_of e t' y];rfl)
 rw[putSet_of e t' y]at this;exact this
end
end L2
namespace LH
open PySem PySem.SetTable
def Inc (xs:Array Nat):Prop:=∀i j (hj:j<xs.size) (h:i<j),xs[i]'(Nat.lt_trans h hj)<xs[j]
theorem aX7 {xs:Array Nat}(h:Inc xs)(j:Nat):∀(fuel lo hi:Nat),hi<=xs.size->hi-lo<=fuel->lo<=hi->(∀i (hi:i<xs.size),i<lo->xs[i]<j)->(∀i (hi':i<xs.size),hi<=i->j<=xs[i]) ->
  below.go xs j fuel lo hi<=xs.size/\(∀i (hi':i<xs.size),i<below.go xs j fuel lo hi->xs[i]<j)/\(∀i (hi':i<xs.size),below.go xs j fuel lo hi<=i->j<=xs[i])
 | 0,lo,hi,h1,h2,h3,h4,h5=>by
  have e:lo=hi:=by lia
  subst e;unfold below.go;exact⟨h1,h4,h5⟩
 | fuel+1,lo,hi,h1,h2,h3,h4,h5=>by
  unfold below.go;by_cases y:lo<hi
  .rw[Ae y];dsimp only;have r:(lo+hi) / 2<xs.size:=by lia
   have g:xs.getD ((lo+hi) / 2) j=xs[(lo+hi) / 2]:=by rw[Bi,Cu r];rfl
   rw[g];split
   .rename_i hc;refine aX7 h j fuel ((lo+hi) / 2+1) hi h1 (by lia) (by lia) (λi hi' s=>?_) h5
    rcases Du i ((lo+hi) / 2) with z | z
    .exact Nat.lt_trans (h i _ r z) hc
    .have:i=(lo+hi) / 2:=by lia
     subst this;exact hc
   .rename_i hc;refine aX7 h j fuel lo ((lo+hi) / 2) (by lia) (by lia) (by lia) h4 (λi hi' k=>?_)
    rcases Du ((lo+hi) / 2) i with z | z
    .have:=h _ i hi' z;lia
    .have:i=(lo+hi) / 2:=by lia
     subst this;lia
  .rw[Ac y];have e:lo=hi:=by lia
   subst e;exact⟨h1,h4,h5⟩
theorem aX4 {xs:Array Nat}(h:Inc xs)(j:Nat):below xs j<=xs.size/\(∀i (hi:i<xs.size),i<below xs j->xs[i]<j)/\(∀i (hi:i<xs.size),below xs j<=i->j<=xs[i]):=
 aX7 h j xs.size 0 xs.size (Aa7 _) (by lia) (by lia) (λi _ z=>absurd z (by lia)) (λi hi z=>absurd hi (by lia))
theorem slot_free {t:SetTable}{j:Nat}(hi:Inc t.place)(h:t.slot j=.empty):j∉t.place:=by
 intro s;obtain⟨i,y,e⟩:=Array.mem_iff_getElem.mp s;obtain⟨h1,r,g⟩:=aX4 hi j;have k:below t.place j=i:=by
  rcases Nat.lt_trichotomy (below t.place j) i with z | z | z
  .have:=hi _ i y z
   have:=g _ (by lia) (Aa7 (below t.place j))
   lia
  .exact z
  .have:=r i y z;lia
 unfold slot at h;dsimp only at h;rw[k,Cu y,e,Ae (by simp)]at h
 cases h
theorem inc_iff {xs:Array Nat}:Inc xs↔xs.toList.Pairwise (· < ·):=by
 rw[List.pairwise_iff_getElem];constructor
 .intro h i j hi hj hij;exact h i j (by simpa using hj) hij
 .intro h i j hj hij;exact h i j (by simp;lia) (by simpa using hj) hij
theorem put_inc {t:SetTable}{j:Nat}(hi:Inc t.place)(h:j∉t.place):Inc (t.put j).1.place:=by
 show Inc (insertAt t.place (below t.place j) j)
 obtain⟨h1,Y,X⟩:=aX4 hi j;rw[inc_iff,SetTable.toList_insertAt];have hp:=inc_iff.mp hi;have e:t.place.toList=t.place.toList.take (below t.place j)++t.place.toList.drop (below t.place j):=(Ad3 _ _).symm;rw[e]at hp;obtain⟨U,J,M⟩:=Ds.mp hp;have m:∀x∈t.place.toList.take (below t.place j),x<j:=λx s=>by
  obtain⟨i,k,rfl⟩:=List.mem_take_iff_getElem.mp s;have r:i<t.place.size:=by simp at k;lia
  have:=Y i r (by lia)
  simpa using this
 have g:∀x∈t.place.toList.drop (below t.place j),j<x:=λx s=>by
  obtain⟨i,k,rfl⟩:=List.mem_drop_iff_getElem.mp s;have r:below t.place j+i<t.place.size:=by simp at k;lia
  have N:=X _ r (by lia)
  have R:t.place[below t.place j+i]≠j:=λz=>h (z▸Array.getElem_mem r)
  simp only[Array.getElem_toList]
  lia
 refine Ds.mpr ⟨U,List.pairwise_cons.mpr ⟨g,J⟩,λx s y hy=>?_⟩
 rcases Aa1.mp hy with rfl | hy
 .exact m x s
 .exact M x s y hy
theorem laid_inc {mask finger moves:Nat}{led plain:Bool}{hs:Array Int}{t:SetTable}{order:Array Nat}(h:laid mask finger moves led plain hs=some (t,order)):Inc t.place:=by
 unfold laid at h;cases e:layClean mask hs with
 | none=>rw[e]at h;cases h
 | some o=>
  rw[e]at h;have h:=Ab4 h;rw[<- (Prod.mk.inj h).1];show Inc (List.map _ _).toArray;rw[inc_iff,List.toList_toArray,Ae0,List.pairwise_filterMap];refine List.pairwise_lt_range.imp λ{a b} k x r y g=>?_
  have h1:x.1=a:=by
   cases z:o.getD a none with
   | none=>rw[z]at r;cases r
   | some u=>rw[z]at r;cases r;rfl
  have s:y.1=b:=by
   cases z:o.getD b none with
   | none=>rw[z]at g;cases g
   | some u=>rw[z]at g;cases g;rfl
  rw[h1,s];exact k
theorem go_cand {t:SetTable}{f:Nat->Int}{h:Int}:∀{fuel:Nat} {p:Probe} {j i:Nat} {n:Probe},probe.go t f h fuel p=some (.candidate j i n)->(f i==h)=true
 | 0,p,j,i,n,e=>by cases e
 | fuel+1,p,j,i,n,e=>by
  unfold probe.go at e;split at e
  .cases e
  .exact go_cand e
  .split at e
   .rename_i hh;cases e;exact hh
   .exact go_cand e
theorem go_empty {t:SetTable}{f:Nat->Int}{h:Int}:∀{fuel:Nat} {p:Probe} {j:Nat} {d:Option Nat},probe.go t f h fuel p=some (.empty j d)->t.slot j=.empty
 | 0,p,j,d,e=>by cases e
 | fuel+1,p,j,d,e=>by
  unfold probe.go at e;split at e
  .rename_i hh;cases e;exact hh
  .exact go_empty e
  .split at e
   .cases e
   .exact go_empty e
end LH
namespace L2
open PySem PySem.Spec PyProof.Rows
theorem TabOk.free {t:SetTable}{n:Nat}(T:TabOk t n)(h:Int):∃j,t.freeSlot h=some (j,false)/\t.slot j=.empty:=by
 obtain⟨m,h1,e⟩:=LH.probe_met T.dm (λ_=>h+1) h (T.rch h) (Aa7 _)
 unfold SetTable.freeSlot;rw[h1];cases e with
 | @emp j=>exact⟨j,rfl,LH.go_empty h1⟩
 | cand a b c d=>
  have:=LH.go_cand h1
  have:h+1=h:=by simpa using this
  lia
theorem cI8 {t:SetTable}{es:Array (Int×Value)}(T:TabOk t es.size)(hi:LH.Inc t.place)(h:Int)(x:Value):∃j p t',t.put j=(t',p)/\layNew t es h x=(SetTable.insertAt es p (h,x),t',false,false)/\t'.dummies = #[]/\t'.place.size=es.size+1/\t'.mask=t.mask/\t'.plain=t.plain/\LH.Inc t'.place/\(SetTable.insertAt es p (h,x)).size=es.size+1/\t'.led=t.led:=by
 obtain⟨j,h1,g⟩:=T.free h;obtain⟨y,z,r⟩:=T.put j;have s:=LH.put_inc hi (LH.slot_free hi g);have m:(t.put j).1.plain=t.plain:=rfl;have e:(SetTable.insertAt es (t.put j).2 (h,x)).size=es.size+1:=by rw[<- Array.length_toList,(SetTable.insertAt_perm _ _ _).length_eq];simp
 have k:(t.put j).1.fits (es.size+1)=true:=by
  unfold SetTable.fits SetTable.fill;rw[y,z,r]
  have:=T.mq
  simp;lia
 refine⟨j,(t.put j).2,(t.put j).1,rfl,?_,y,z,r,m,s,e,rfl⟩;unfold layNew;rw[h1];dsimp only;rw[e];unfold SetTable.orStandIn;rw[k];rfl
theorem cU6 {t:SetTable}{es:Array (Int×Value)}(U:es.size=5):∃es' t',relayAll t es 20=(es',t',false)/\es'.toList.Perm es.toList/\TabOk t' es'.size/\LH.Inc t'.place/\t'.plain=t.plain/\t'.led=t.led:=by
 obtain⟨t',y,h1,Y,X,s,r⟩:=LH.laid_some LH.full31 (es.map (·.1)) (by rw[Array.size_map];lia) t.finger (t.movedTo 31) t.led t.plain
 have g:=LH.laid_inc h1
 have z:t'.plain=t.plain/\t'.led=t.led:=by
  unfold SetTable.laid at h1;cases e:SetTable.layClean 31 (es.map (·.1)) with
  | none=>rw[e]at h1;cases h1
  | some o=>
   rw[e]at h1;have h:=Ab4 h1;rw[<- (Prod.mk.inj h).1];exact⟨rfl,rfl⟩
 have h1:t.relaid (es.map (·.1)) 20=some (t',y):=h1
 rw[Array.size_map]at s r;have hp:(y.filterMap (es[·]?)).toList.Perm es.toList:=by
  rw[Array.toList_filterMap];exact(r.filterMap _).trans (by rw[filterMap_getElem?_range])
 have m:(y.filterMap (es[·]?)).size=es.size:=by rw[<- Array.length_toList,hp.length_eq,Ap]
 have k:TabOk t' es.size:=⟨X,s,.inr ⟨Y,by lia⟩⟩
 refine⟨_,t',?_,hp,by rw[m];exact k,g,z.1,z.2⟩
 unfold relayAll;rw[h1];dsimp only;rw[Ae];rw[Bc];exact⟨by unfold coversAll;exact List.isPerm_iff.mpr r,by rw[m];exact k.fits⟩
section
variable {prog:Program}{w:World}{A:Around}{E:Dy}{s:Shared}
def dQ1:Int×Value->Int
 | (_,.int k _)=>k
 | _=>0
def SetI (prog:Program)(w:World)(h:Heap)(S:Addr)(ks:AC):Prop:=∃o es ep t,h.get? S=some o/\o.ExactSet/\o.data=.set es ep t/\TabOk t es.size/\LH.Inc t.place/\t.plain=true/\t.led = !(w.params.followText "set-order")/\ElemsOf (intKind prog w) es.toList/\(es.toList.map dQ1).Perm ks
theorem dY3 {k:Int}{v:Value}(h:(intKind prog w).is k v=true)(x:Int):dQ1 (x,v)=k:=by
 have h:Value.isInt k v=true:=h
 cases v <;> first | (simp[Value.isInt]at h;done) | (simp only[Value.isInt,beq_iff_eq]at h;exact h)
theorem dH2 {S:Addr}{ks:AC}{k:Int}{tk:Tok}{Q:Bool->Shared->Prop}(hS:SetI prog w s.heap S ks)(hlen:ks.length<=15)(hk:k∉ks)
  (h:∀h',Heap.SameBut S s.heap h'->SetI prog w h' S (k::ks)->Q true {s with heap:=h',toks:=s.toks+1}):wpAny (model prog w) A (setAdd S (.int k tk)) Q E s:=by
 obtain⟨o,es,ep,t,ho,N,hd,T,hin,Y,D,m,hp⟩:=hS;have hn:es.size=ks.length:=by rw[<- hp.length_eq,Aa3,Ap]
 have r:(intKind prog w).is k (.int k tk)=true:=intKind_is _ _ _ _
 have M:es.size<scanBound:=by unfold scanBound;lia
 have hno:es.toList.findIdx? (λe=>(intKind prog w).is k e.2)=none:=by
  rw[List.findIdx?_eq_none_iff];intro e he;cases hc:(intKind prog w).is k e.2 with
  | false=>rfl
  | true=>exact absurd (hp.mem_iff.mp (Aa8.mpr ⟨e,he,dY3 hc e.1⟩)) hk
 unfold setAdd;refine Bp ?_;refine Aa ((intKind prog w).pyHash (k:=k) r ?_)
 revert h
 generalize B:({s with toks:=s.toks+1}:Shared)=s1
 have e1:s1.heap=s.heap:=by rw[<- B]
 intro h;have h:∀h',Heap.SameBut S s1.heap h'->SetI prog w h' S (k::ks)->Q true {s1 with heap:=h'}:=λh' a b=>by
  rw[e1]at a
  have:=h h' a b
  rw[<- B];exact this
 rw[<- e1]at ho;unfold setAddHashed setAddHashedIn;refine Bp (Aa (wpAny_setState_of ho hd T.fits ?_));dsimp only;rw[byScan_of rfl M m];simp only[↓reduceIte];unfold setAddByScan;refine Aa ?_;refine Aa (wpAny_rule ?_);refine Aa (wpAny_setScan_of r ho hd T.fits m ?_);rw[hno];dsimp only;obtain⟨j,p,U,hput,R,p1,p2,p3,p5,p4,X,p6⟩:=cI8 T hin ((intKind prog w).hash k) (.int k tk);rw[R];dsimp only;refine Aa (wpAny_of_eq (a:=()) rfl ?_);rw[p5,Y];simp only[↓reduceIte];refine Aa (wpAny_of_eq (a:=true) (hashByValue_scannable 8 rfl) ?_);simp only[↓reduceIte];have F:(SetTable.insertAt es p ((intKind prog w).hash k,Value.int k tk)).toList.Perm (((intKind prog w).hash k,Value.int k tk)::es.toList):=(SetTable.insertAt_perm _ _ _).trans (by rw[Array.toList_push];exact List.perm_append_singleton _ _)
 have g:ElemsOf (intKind prog w) (SetTable.insertAt es p ((intKind prog w).hash k,Value.int k tk)).toList:=λe he=>by
  rcases Aa1.mp (F.mem_iff.mp he) with rfl | he
  .exact⟨⟨k,r,rfl⟩,rfl⟩
  .exact m e he
 have hvs:((SetTable.insertAt es p ((intKind prog w).hash k,Value.int k tk)).toList.map dQ1).Perm (k::ks):=(F.map _).trans (hp.cons _)
 refine Aa (wpAny_storeSet_of ho hd ?_ (by rw[X,Cd];lia))
 have hg:=bZ8 ho hd (SetTable.insertAt es p ((intKind prog w).hash k,Value.int k tk)) U
 have P:=Heap.SameBut.update s1.heap S (Obj.putSet (SetTable.insertAt es p ((intKind prog w).hash k,Value.int k tk)) U)
 have z:U.fill=es.size+1:=by unfold SetTable.fill;rw[p1,p2];rfl
 by_cases y:U.tooFull=true
 .rw[y];simp only[Bool.not_false,Bool.and_self,if_true];unfold SetTable.tooFull at y;have y:=Am y;rw[z,p3]at y;have h4:es.size=4:=by have:=T.mq;lia
  rw[X,show SetTable.grown (es.size+1)=20 by rw[h4];rfl]
  obtain⟨J,t',q0,q1,q2,q3,q4,q5⟩:=cU6 (t:=U) (es:=SetTable.insertAt es p ((intKind prog w).hash k,Value.int k tk)) (by rw[X,h4])
  rw[q0];dsimp only;refine Aa (wpAny_of_eq (a:=()) rfl ?_);refine Aa (wpAny_storeSet_of hg rfl ?_ (by rw[<- Array.length_toList,q1.length_eq,Ap,X,Cd];lia))
  refine Ab (Ab ?_);have hg2:=bZ8 hg rfl J t';exact h _ (P.trans (Heap.SameBut.update _ S _)) ⟨_,J,_,t',hg2,N,rfl,q2,q3,by rw[q4,p5,Y],by rw[q5,p6,D],λe he=>g e (q1.mem_iff.mp he),(q1.map _).trans hvs⟩
 .rw[Bool.not_eq_true]at y;rw[y];simp only[Bool.and_false,Ct,if_false];refine Ab (Ab (h _ P ⟨_,_,_,U,hg,N,rfl,⟨p1,by rw[p2,X],?_⟩,p4,by rw[p5,Y],by rw[p6,D],g,hvs⟩))
  unfold SetTable.tooFull at y;have y:=Bm y;rw[z,p3]at y;rw[p3,X]
  have:=T.mq
  lia
end
end L2
namespace LH
open PySem
end LH
namespace L2
open PySem PySem.Spec PyProof.Rows
end L2
namespace LV
open PySem PySem.Spec PyProof.Rows L2
end LV
namespace L2
open PySem PySem.Spec PyProof.Rows
theorem bB1:isSubtype (.type "tuple") (.type "set")=pure false:=by rw[Av];kernel_rfl
theorem aF8:isSubtype (.type "tuple") (.type "frozenset")=pure false:=by rw[Av];kernel_rfl
def dB1 (a:Addr)(n:Nat):HO:=.ext λh=>∃o es ep t,h.get? a=some o/\o.ExactSet/\o.data=.set es ep t/\t.fits es.size=true/\es.size=n/\n<=100
section
variable {X:Cx}
theorem bA7:T0 X (.builtin "len") (λxs H Q=>∃a n,xs=[.ref a]/\H a=some (dB1 a n)/\Q (.int n) H):=by
 intro U s σ H xs R Q I r ⟨a,n,e,m,q⟩;subst e;obtain⟨u,rfl,Y⟩:=V7 r;cases Y;obtain⟨⟨o,M,J,t,h1,y,z,g,k,N⟩,_⟩:=(show ObjOk X.prog X.w H s.heap a (dB1 a n) from I.hok a _ m)
 subst k;exact call_len_set h1 y z g (by lia) ⟨.int _,H,I.tok _,⟨_,rfl⟩,q⟩
end
theorem SetI.at_ {prog:Program}{w:World}{h h':Heap}{S:Addr}{ks:AC}(x:SetI prog w h S ks)(e:∀o,h.get? S=some o->h'.get? S=some o):SetI prog w h' S ks:=by
 obtain⟨o,z,y,t,ho,r⟩:=x;exact⟨o,z,y,t,e o ho,r⟩
def ksN (key:Nat->Int):Nat->AC
 | 0=>[]
 | i+1=>key i::ksN key i
theorem bL4 (e:Nat->Int):∀i,(ksN e i).length=i
 | 0=>rfl
 | i+1=>by show(ksN e i).length+1=_;rw[bL4 e i]
theorem cD6 {key:Nat->Int}{v:Int}:∀{i},v∈ksN key i->∃j,j<i/\v=key j
 | 0,h=>by cases h
 | i+1,h=>by
  rcases Aa1.mp h with rfl | h
  .exact⟨i,by lia,rfl⟩
  .obtain⟨j,h1,e⟩:=cD6 h;exact⟨j,by lia,e⟩
section
variable {prog:Program}{w:World}{A:Around}{R:Result->Shared->Prop}{I:Addr}{fp wr:AK}{G:Array GenState->Array GenState->Prop}{n:Nat}{P:Nat->Value->Prop}{St:Nat->Shared->Prop}
theorem cH8 (W:WalksS prog w A.in1 I fp wr G n P St)(S:Addr)(X:S∉fp)
  (y:Nat->Int) (B:∀i v,P i v->∃t,v=.int (y i) t) (hn:n<=15) (M:∀i j,i<j->j<n->y i≠y j) :
  ∀(k i:Nat) (s:Shared),n-i=k->i<=n->St i s->SetI prog w s.heap S (ksN y i) ->
   (∀s',Moved (S::wr) G s s'->SetI prog w s'.heap S (ksN y n)->R (.ok (.ret .none)) s') ->
   codeAny (model prog w) A (.builtin "set.update.loop" ⟨[.ref S,.ref I],[]⟩) R s:=by
 have U:S∉wr:=λh=>X (W.sub _ h)
 have z:∀b∈wr,b∈S::wr:=λb J=>Ad4 _ J
 intro k;induction k with
 | zero=>
  intro i s hk hi m hS hR;have hin:i=n:=by lia
  subst hin;refine codeAny_builtin F.entry_set_update_loop ?_;rw[Around.under_plainId F.plain_set_update_loop _];show wpAny _ A.in1 (pyNext (.ref I) >>= _) _ _ s;refine Aa (W.done s _ _ m λs' g=>?_)
  show wpAny _ A.in1 (ret Value.none) _ _ s'
  exact Ab (hR s' (g.mono z) (hS.at_ λo ho=>g.heap S _ U ho))
 | succ k ih=>
  intro i s hk hi m hS hR;have r:i<n:=by lia
  refine codeAny_builtin F.entry_set_update_loop ?_;rw[Around.under_plainId F.plain_set_update_loop _];show wpAny _ A.in1 (pyNext (.ref I) >>= _) _ _ s;refine Aa (W.item i s _ _ r m λv s' hP D g=>?_)
  obtain⟨tk,rfl⟩:=B i v hP;have hS':SetI prog w s'.heap S (ksN y i):=hS.at_ λo ho=>g.heap S _ U ho
  show wpAny _ A.in1 (holding [Value.int (y i) tk] (setAdd S (.int (y i) tk)) >>= _) _ _ s'
  refine Aa (Bp ?_);refine dH2 hS' (by rw[bL4];lia) (λg=>?_) λh' Q hS2=>?_
  .obtain⟨j,hj,e⟩:=cD6 g;exact M j i hj r e.symm
  .refine Ab ⟨plainId_quiet F.plain_set_update_loop _,ih (i+1) _ (by lia) r (W.frame _ s' _ _ D (Nat.le_succ _) λb J o e=>?_) hS2 λs'' N Y=>?_⟩
   .rw[Q.2 b (λh:b=S=>X (by rw[<- h];exact J))];exact e
   .refine hR s'' (Moved.trans W.gtrans ((g.mono z).then_heap (Nat.le_succ _) λb o J e=>?_) N) Y
    rw[Q.2 b (λh:b=S=>J (by rw[h];exact Az))];exact e
end
section
variable {prog:Program}{w:World}{A:Around}{E:Dy}{s:Shared}
theorem bP0 (a:Value){Q₁:Dy}
  (h:Q₁ (.ref s.heap.objs.size) {s with heap:=s.heap.push {cls:=.type "set",dict:=none,data:=.set #[] 0 (.fresh 0 0 (!(w.params.followText "set-order")))}}) :
  codeAny (model prog w) A (.call (.builtin "set.__new__") ⟨[.type "set",a],[]⟩) (wants Q₁ E) s:=by
 refine codeAny_of_tree ?_;show wpAny _ A.in1 (do checkBuiltinCall "set.__new__" ⟨[.type "set",a],[]⟩;again (.builtin "set.__new__" ⟨[.type "set",a],[]⟩)) _ _ s;refine Aa (wpAny_of_eq (F.newCall_set_1 a) (Ab ⟨plainId_quiet F.plain_set_new _,codeAny_builtin F.entry_set_new ?_⟩));rw[Around.under_plainId F.plain_set_new _];unfold Builtin.«set.__new__» Builtin.Frozenset.newClass;have e:=sub_set_self;obtain⟨hp,g,d,tk,os⟩:=s;dsimp only
 wp_walk
 refine wpAny_askSetting (Ab ?_);dsimp only;simp only[newObj];refine Aa (wpAny_alloc (Ab ?_));exact Ab h
set_option maxHeartbeats 3200000 in
theorem bA6 {l:Addr}{vs:AF}{ns:AC}{Q:Dy}
  (hh:A.handled=none) (hl:s.heap.IsTuple l vs.toArray) (hi:IntsAre vs ns) (B:ns.length<=15) (hnd:∀i j,i<j->j<ns.length->ns.getD i 0≠ns.getD j 0)
  (h:∀(h':Heap) (tk:Nat),SetI prog w h' s.heap.objs.size (ksN (λi=>ns.getD i 0) ns.length) ->
   (∀b o,b<s.heap.objs.size->s.heap.get? b=some o->h'.get? b=some o)->Q (.ref s.heap.objs.size) {s with heap:=h',toks:=tk}) :
  wpAny (model prog w) A (call (.type "set") [.ref l]) Q E s:=by
 obtain⟨c,tl,hmro⟩:=F.called_set.mro;have hmade:=F.called_set.made;have hsub:=F.called_set.sub;refine wpAny_call (codeAny_of_tree ?_);show wpAny _ _ (callAny (.type "set") _) _ _ _;refine Ab ⟨Code.quiet_builtin _ (by decide +kernel),codeAny_builtin F.entry_type_call ?_⟩
 rw[Around.under_plain (weight_type_call_type "set" [.ref l] []) rfl];have h1:=F.called_set.notType;have h2:=F.called_set.canCreate;have hct:=F.typeCall_set_1 (.ref l)
 repeat (any_goals (first | assumption | wp_step))
 refine codeAny_mono (bP0 (.ref l) (E:=E) (Q₁:=λobj s₁=>∃y:Bool,y = !(w.params.followText "set-order")/\obj=.ref s.heap.objs.size/\s₁={s with heap:=s.heap.push {cls:=.type "set",dict:=none,data:=.set #[] 0 (.fresh 0 0 y)}}) ⟨_,rfl,rfl,rfl⟩) λr s₁ hr=>?_
 cases r with
 | error e=>exact hr
 | ok fl=>
  cases fl with
  | ret obj=>
   obtain⟨y,D,rfl,rfl⟩:=hr;have hS:(s.heap.push {cls:=.type "set",dict:=none,data:=.set #[] 0 (.fresh 0 0 y)}).get? s.heap.objs.size=some {cls:=.type "set",dict:=none,data:=.set #[] 0 (.fresh 0 0 y)}:=Ac3 _ rfl;have hT:Shared.TypeIs {s with heap:=s.heap.push {cls:=.type "set",dict:=none,data:=.set #[] 0 (.fresh 0 0 y)}} (.ref s.heap.objs.size) "set" := ⟨_,hS,rfl⟩
   have hli:=F.called_set.init.lookup
   have hbi:=F.called_set.init.bind (.ref s.heap.objs.size)
   repeat (any_goals (first | assumption | wp_step))
   refine codeAny_mono (codeAny_call_builtin (R:=wants (λr s₂=>r=.none/\∃h' tk,s₂={s with heap:=h',toks:=tk} /\
     SetI prog w h' s.heap.objs.size (ksN (λi=>ns.getD i 0) ns.length) /\
     (∀b o,b<s.heap.objs.size->s.heap.get? b=some o->h'.get? b=some o)) E) F.called_set.init.plain F.entry_set_init (check_set_init_1 hT ?_)) λr₂ s₂ k=>?_
   .obtain⟨ol,hol,X,nl,U⟩:=hl;obtain⟨ocls,Y,odata,g⟩:=ol;simp only at X U;subst X;subst U;have hol':(s.heap.push {cls:=.type "set",dict:=none,data:=.set #[] 0 (.fresh 0 0 y)}).get? l=some {cls:=.type "tuple",dict:=Y,data:=.seq vs.toArray nl,slots:=g}:=Aa6 _ hol;have hsls:=bB1;have hslf:=aF8;have hne:(Value.type "tuple" == Value.type "dict")=false:=by decide
    have M:(s.heap.push {cls:=.type "set",dict:=none,data:=.set #[] 0 (.fresh 0 0 y)}).IsTuple l vs.toArray:=⟨_,hol',rfl,nl,rfl⟩
    unfold Builtin.«set.__init__» noKeywords Builtin.Frozenset.updateFrom;generalize hPI:pyIter=PI
    wp_walk
    subst hPI;refine wpAny_pyIter_tuple M ?_;refine Aa (wpAny_runValue ?_);have N:l<s.heap.objs.size:=Ab3 hol;have hh3:A.in1.in1.in1.handled=none:=by simp[hh]
    have P:l≠(s.heap.push {cls:=.type "set",dict:=none,data:=.set #[] 0 (.fresh 0 0 y)}).objs.size:=by
     rw[Ca];exact Ab9 (Bw N)
    have hSf:s.heap.objs.size∉[(s.heap.push {cls:=.type "set",dict:=none,data:=.set #[] 0 (.fresh 0 0 y)}).objs.size,l]:=by
     rw[Ca];simp only[Aa1,Ad8,Ac2,or_false,not_or];exact⟨Ab9 (Nat.lt_succ_self _),Nat.ne_of_gt N⟩
    have hvn:vs.length=ns.length:=IntsAre.length hi
    have m:vs.toArray.size=ns.length:=by simp[hvn]
    have hval:∀(i:Nat) (v:Value),vs.toArray[i]? = some v->∃t,v=.int ((λi=>ns.getD i 0) i) t:=λi v hv=>
     PyProof.Rows.IntsAre.int_at hi i v (by simpa using hv)
    refine cH8 ((Walks.tuple hh3 _ l P vs.toArray).toS) s.heap.objs.size
     hSf (λi=>ns.getD i 0) hval (by rw[m];exact B) (λi j hij hj=>hnd i j hij (by rw[m]at hj;exact hj)) (vs.toArray.size-0) 0 _ (by lia) (Cn _)
     ⟨⟨_,Ac3 _ rfl,rfl,rfl⟩,(M.push _)⟩ ?hS0 ?hR
    case hS0=>
     have J:((s.heap.push {cls:=.type "set",dict:=none,data:=.set #[] 0 (.fresh 0 0 y)}).push {cls:=.type "tuple_iterator",data:=.fields #[.ref l,.int 0 0]}).get? s.heap.objs.size
       = some {cls:=.type "set",dict:=none,data:=.set #[] 0 (.fresh 0 0 y)}:=Aa6 _ hS
     exact⟨_,#[],0,_,J,(PyProof.Rows.setObjOf_fresh (knd:=intKind prog w) y).1,rfl,⟨rfl,rfl,.inl ⟨rfl,by decide⟩⟩,(λi j hj h=>absurd hj (by show ¬j<0;lia)),rfl,D,(λe he=>by cases he),List.Perm.refl _⟩
    case hR=>
     intro s' hm z;obtain⟨h',g',d',tk',os'⟩:=s';have eg:g'=s.gens:=hm.gens;have ed:d'=s.drawn:=hm.drawn;have eo:os'=s.os:=hm.os;subst eg;subst ed;subst eo;show wpAny _ _ _ _ _ _;refine Ab ?_;show wpAny _ _ (ret Value.none) _ _ _;rw[m]at z;refine Ab ⟨rfl,h',tk',rfl,z,λb o hb e=>?_⟩
     have hb1:b≠s.heap.objs.size:=Ab9 hb
     have hb2:b≠(s.heap.push {cls:=.type "set",dict:=none,data:=.set #[] 0 (.fresh 0 0 y)}).objs.size:=by
      rw[Ca];exact Ab9 (Bw hb)
     exact hm.heap b o (by simp only[Aa1,Ad8,Ac2,or_false,not_or];exact⟨hb1,hb2⟩) (Aa6 _ (Aa6 _ e))
   .cases r₂ with
    | error e=>exact k
    | ok fl₂ =>
     cases fl₂ with
     | ret r=>
      obtain⟨rfl,h',tk,rfl,z,hk'⟩:=k
      repeat (any_goals (first | assumption | wp_step))
      exact h _ _ z hk'
     | _=>exact k.elim
  | _=>exact hr.elim
end
open PySem.Calls
theorem bX7 {l:AC}(h:l.Nodup)(i j:Nat)(e:i<j)(y:j<l.length):l.getD i 0≠l.getD j 0:=by
 have hi:i<l.length:=by lia
 rw[Ac0,Ac0,Aa2 hi,Aa2 y];exact(List.pairwise_iff_getElem.mp h) i j hi y e
end L2
namespace LV
open PySem L2 PyProof.Rows
end LV
namespace L2
open PySem PySem.Spec PyProof.Rows
section
variable {X:Cx}
def cV5 (K:Frag):List V->Hp->VK->Prop:=λxs H Q=>∃(p:Addr) (l:AC),xs=[.ref p]/\SqT K H p (l.map V.int)/\l.length<=15/\l.Nodup/\∀a,H a=none->Q (.ref a) (upd H a (dB1 a l.length))
theorem bW3 (K:Frag)(N:X.calm=true)(h:X.K=K:=by rfl):T0 X (.type "set") (cV5 K):=by
 subst h;rintro aA s σ H xs us Q I r ⟨p,l,e,F,D,k,q⟩;subst e;obtain⟨u,rfl,rx⟩:=V7 r;cases rx;obtain⟨its,rv,P,hz⟩:=I.tuple F;refine bA6 (I.ok.hd N) P (LV.U4 rv) D (bX7 k) λm tk B R=>?_
 refine⟨.ref _,_,I.laid (λb o e=>R b o (Ab3 e) e) (Aa7 _) (show ObjOk X.prog X.w _ m _ (dB1 _ l.length) from ?_),rfl,q _ (I.hok.fresh (Aa7 _))⟩
 obtain⟨o,g,y,t,h1,Y,U,J,_,_,_,_,M⟩:=B;refine⟨⟨o,g,y,t,h1,Y,U,J.fits,?_,by lia⟩,⟨o,h1⟩,?_⟩
 .have:=M.length_eq
  rw[Aa3,Ap,bL4]at this;exact this
 .rintro g1 g2 ⟨o,g,y,t,h1,r⟩ z;exact⟨o,g,y,t,z o h1,r⟩
end
end L2
namespace LV
open PySem PyProof.Rows L2
section
variable {K:Frag}{ρ:List Sl}{m:Bool}
theorem cJ2 {t:TA}{l:AC}(g:A K false t ρ [tI l])(k:l.length<=15)(s:l.Nodup) :
  E K m (tCB (λxs H Q=>∃a n,xs=[.ref a]/\H a=some (dB1 a n)/\Q (.int n) H) (K7 (tCB (cV5 K) t) S8)) ρ (.int (l.length:Int)):=E.bor (E.imm (m:=false) λS B σ H o I Q q=>
 g S B σ H o I _ λvs y Y r=>by
  cases r with
  | cons a b=>
   cases b
   cases a with
   | @tup p xs _ sq rr=>
    have sq:SqT K y p xs:=sq
    rw[Reps.ints rr]at sq;exact⟨p,l,rfl,sq,k,s,λz e=>⟨z,_,rfl,B3,q _ _ (L2.Same.tr Y (D8 e)) (.int _)⟩⟩)
end
end LV
namespace TT
open Classical
theorem cD4:∀{l:AB} {a b:Nat},lin l a b↔∃p s,l=p++a::b::s
 | [],a,b=>by simp[lin]
 | [c],a,b=>by
  simp only[lin,false_iff];rintro⟨p,s,e⟩
  have:=congrArg List.length e
  simp at this
  lia
 | c::d::l,a,b=>by
  rw[E3,cD4 (l:=d::l)];constructor
  .rintro (⟨rfl,rfl⟩ | ⟨p,s,e⟩)
   .exact⟨[],l,rfl⟩
   .exact⟨c::p,s,by rw[e];rfl⟩
  .rintro⟨p,s,e⟩;cases p with
   | nil=>simp at e;exact .inl ⟨e.1.symm,e.2.1.symm⟩
   | cons c' p=>simp at e;exact .inr ⟨p,s,e.2⟩
theorem adj_iff {l:AB}{a b:Nat}:adj l a b↔(∃p s,l=p++a::b::s)\/∃p,l=p++[a]/\l.head? = some b:=by
 unfold adj;rw[cD4];cases l with
 | nil=>simp
 | cons c l=>
  simp only[List.take_succ_cons,List.take_zero,List.head?_cons,Option.some.injEq];constructor
  .rintro⟨p,s,e⟩;rcases Ac5 s with y | ⟨z,d,y⟩
   .subst y;have e':(c::l)++[c]=(p++[a])++[b]:=by rw[e];simp
    have:=List.append_inj' e' rfl
    exact .inr ⟨p,this.1,by simpa using this.2⟩
   .subst y;have e':(c::l)++[c]=(p++a::b::z)++[d]:=by rw[e];simp
    exact .inl ⟨p,z,(List.append_inj' e' rfl).1⟩
  .rintro (⟨p,s,e⟩ | ⟨p,e,rfl⟩)
   .exact⟨p,s++[c],by rw[e];simp⟩
   .exact⟨p,[],by rw[e];simp⟩
theorem aQ0 {l p s:AB}{u:Nat}(y:l.Nodup)(e:l=p++u::s):l.idxOf u=p.length:=by
 have hp:u∉p:=λz=>by rw[e]at y;exact(Aa4.mp y).2.2 u z u (by simp) rfl
 rw[e,List.idxOf_append,Ac hp];simp
section
variable {r:Nat->AB}{n:Nat}{rim:AB}{R:Nat->Prop}
def gi (rim:AB)(k:Nat):Nat:=rim.getD k 0
theorem bQ5 {k:Nat}(h:k<rim.length):rim[k]? = some (gi rim k):=by
 unfold gi;rw[Ac0,Aa2 h];rfl
theorem dW1 {k:Nat}(h:k+1<rim.length):adj rim (gi rim k) (gi rim (k+1)):=by
 refine adj_iff.mpr (.inl ⟨rim.take k,rim.drop (k+2),?_⟩);have h1:=bQ5 (rim:=rim) (k:=k) (by lia)
 have e:=bQ5 h
 rw[Aa2 (by lia)]at h1
 rw[Aa2 h]at e;rw[<- Ab4 h1,<- Ab4 e];rw[<- List.drop_eq_getElem_cons h,<- List.drop_eq_getElem_cons (show k<rim.length by lia),Ad3]
theorem dG9 (h:0<rim.length):adj rim (gi rim (rim.length-1)) (gi rim 0):=by
 refine adj_iff.mpr (.inr ⟨rim.take (rim.length-1),?_,?_⟩)
 .have h1:=bQ5 (rim:=rim) (k:=rim.length-1) (by lia)
  rw[Aa2 (by lia)]at h1
  rw[<- Ab4 h1]
  have:=Ad3 (rim.length-1) rim
  rw[Ao (by lia),List.drop_eq_nil_of_le (by lia)]at this
  exact this.symm
 .rw[List.head?_eq_getElem?];exact bQ5 h
end
end TT
namespace TT
variable {F G:Nat->Nat}{m:Nat}{f:Nat->Nat}{d t:AA}
end TT
namespace TT
open Classical
theorem cZ0 {L:AB}{q:Nat}(h:q∈L):gi L (L.idxOf q)=q:=by
 unfold gi;rw[Ac0,Aa2 (Cb.mpr h)]
 simp
section
variable {n:Nat}{r:Nat->AB}{v:Nat}{w:Nat->AB}
theorem dQ5 {l:AB}(g:l.Nodup){x y y':Nat}(h:adj l x y)(h':adj l x y'):y=y':=by
 rcases adj_iff.mp h with⟨p,s,e⟩ | ⟨p,e,J⟩
 .rcases adj_iff.mp h' with⟨k,M,e'⟩ | ⟨k,e',z⟩
  .have X:=aQ0 g e
   have U:=aQ0 g e'
   have:=List.append_inj (e.symm.trans e') (by lia)
   simpa using(List.cons.inj (List.cons.inj this.2).2).1
  .have X:=aQ0 g e
   have U:=aQ0 g (p:=k) (s:=[]) e'
   have m:=congrArg List.length e
   have Y:=congrArg List.length e'
   simp at m Y;lia
 .rcases adj_iff.mp h' with⟨k,M,e'⟩ | ⟨k,e',z⟩
  .have X:=aQ0 g (p:=p) (s:=[]) e
   have U:=aQ0 g e'
   have m:=congrArg List.length e
   have Y:=congrArg List.length e'
   simp at m Y;lia
  .rw[J]at z;exact Ab4 z
end
def prd (l:AB)(x:Nat):Nat:=if l.idxOf x=0 then gi l (l.length-1) else gi l (l.idxOf x-1)
theorem cE1 {l:AB}{x:Nat}(h:x∈l):adj l (prd l x) x:=by
 have y:=Cb.mpr h
 unfold prd;by_cases e:l.idxOf x=0
 .rw[Ae e]
  have:=dG9 (rim:=l) (by lia)
  rwa [<- e,cZ0 h]at this
 .rw[Ac e]
  have:=dW1 (rim:=l) (k:=l.idxOf x-1) (by lia)
  rwa [show l.idxOf x-1+1=l.idxOf x by lia,cZ0 h]at this
def th (r:Nat->AB)(p q:Nat):Nat:=prd (r q) p
section
variable {n:Nat}{r:Nat->AB}
theorem Good.th (G:Good n r){p q:Nat}(h:q∈r p):adj (r p) q (th r p q):=G.tri _ _ _ (G.tri _ _ _ (cE1 (G.sym h)))
theorem Good.th_mem (G:Good n r){p q:Nat}(h:q∈r p):TT.th r p q∈r q/\p∈r (TT.th r p q):=by
 have:=G.th h
 have h1:=M4 (G.tri _ _ _ this)
 have e:=M4 (G.tri _ _ _ (G.tri _ _ _ this))
 exact⟨h1.1,e.1⟩
theorem Good.th_un (G:Good n r){p q x:Nat}(h:adj (r p) q x):x=TT.th r p q:=dQ5 (G.nd p) h (G.th (M4 h).1)
theorem Good.th_rot (G:Good n r){p q:Nat}(h:q∈r p):TT.th r q (TT.th r p q)=p:=(G.th_un (G.tri _ _ _ (G.th h))).symm
theorem dX1 {α:Type}[DecidableEq α]{l:List α}(y:l.Nodup):∀{m:List α},(∀x∈l,x∈m)->l.length<=m.length:=by
 induction l with
 | nil=>intro m _;simp
 | cons a l g=>
  intro m h;rw[Aa5]at y
  have:=g y.2 (m:=m.erase a) λx z=>by
   refine(List.mem_erase_of_ne ?_).mpr (h x (by simp[z]))
   intro e;subst e;exact y.1 z
  rw[Cv (h a (by simp))]at this
  have hp:0<m.length:=Dd (h a (by simp))
  simp;lia
end
end TT
namespace L2
open PySem PySem.Spec PyProof.Rows
end L2
namespace LV
open PySem PySem.Spec PyProof.Rows L2
end LV
namespace TT
def eJ8 (k:Nat)(l:AB):AB:=l.drop k++l.take k
theorem bU9 {k:Nat}{l:AB}(e:l.Nodup):G4 (eJ8 k l)=G4 l:=by
 have:=bY9 (u:=l.take k) (w:=l.drop k) (by rw[Ad3];exact e)
 rw[Ad3]at this;exact this
theorem bN9 {l:AB}(e:l.Nodup):G4 (G4 l)=G4 l:=bU9 (k:=l.idxOf (mn l)) e
section
variable {n:Nat}{r:Nat->AB}{p q a b:Nat}
theorem Good.corner (G:Good n r):∀x y,x<=2->y<=2->x≠y->y∈r x:=λx y s m e=>by
 have g:=G.out
 have z:=G.tri _ _ _ g
 have k:=G.tri _ _ _ z
 rcases (show x=0\/x=1\/x=2 by lia) with rfl | rfl | rfl <;> rcases (show y=0\/y=1\/y=2 by lia) with rfl | rfl | rfl
 .exact absurd rfl e
 .exact(M4 k).2
 .exact(M4 k).1
 .exact(M4 z).1
 .exact absurd rfl e
 .exact(M4 z).2
 .exact(M4 g).2
 .exact(M4 g).1
 .exact absurd rfl e
end
def hgS (r:Nat->AB)(met:AB)(one:Nat):AB:=met++(r one).filter λq=>decide (q∉met)
def hgF (r:Nat->AB)(l met:AB):AB:=l.foldl (hgS r) met
def hg (r:Nat->AB):Nat->AB
 | 0=>[0]
 | k+1=>hgF r (hg r k) (hg r k)
section
variable {n:Nat}{r:Nat->AB}
theorem cO6 (l met:AB)(x:Nat):hgF r (l++[x]) met=hgS r (hgF r l met) x:=by unfold hgF;rw[List.foldl_append];rfl
structure Hg (n:Nat)(l:AB):Prop where
 nd:l.Nodup
 lt:∀x∈l,x<n
theorem dX2 (G:Good n r){met:AB}(h:Hg n met)(one:Nat):Hg n (hgS r met one)/\(∃e,hgS r met one=met++e)/\∀q∈r one,q∈hgS r met one:=by
 unfold hgS;refine⟨⟨Aa4.mpr ⟨h.nd,(G.nd one).filter _,λx g y m e=>?_⟩,λx g=>?_⟩,⟨_,rfl⟩,λq s=>?_⟩
 .have:=(Cp.mp m).2
  exact Am this (e▸g)
 .rcases Aa0.mp g with z | z
  .exact h.lt x z
  .exact G.lt one x (Cp.mp z).1
 .by_cases k:q∈met
  .exact Aa0.mpr (.inl k)
  .exact Aa0.mpr (.inr (Cp.mpr ⟨s,Bu k⟩))
theorem bG5 (G:Good n r):∀(l:AB) {met:AB},Hg n met->Hg n (hgF r l met)/\(∃e,hgF r l met=met++e)/\∀x∈l,∀q∈r x,q∈hgF r l met
 | [],met,h=>⟨h,⟨[],by rw[Bl];rfl⟩,λx hx=>by cases hx⟩
 | y::l,met,h=>by
  obtain⟨h1,⟨k,m⟩,Y⟩:=dX2 G h y;obtain⟨X,⟨s,g⟩,U⟩:=bG5 G l h1;have e:hgF r (y::l) met=hgF r l (hgS r met y):=rfl;rw[e];refine⟨X,⟨k++s,by rw[g,m,Ad7]⟩,λx hx q z=>?_⟩
  rcases Aa1.mp hx with rfl | hx
  .rw[g];exact Aa0.mpr (.inl (Y q z))
  .exact U x hx q z
theorem cU9 (G:Good n r):∀k,Hg n (hg r k)/\0∈hg r k/\(k+1<=(hg r k).length\/n<=(hg r k).length)
 | 0=>⟨⟨by simp[hg],λx g=>by have:=G.three;simp[hg]at g;lia⟩,by simp[hg],.inl (by simp[hg])⟩
 | k+1=>by
  obtain⟨h1,s,U⟩:=cU9 G k;obtain⟨N,⟨e,y⟩,Y⟩:=bG5 G (hg r k) h1;have X:hg r (k+1)=hgF r (hg r k) (hg r k):=rfl;rw[X];refine⟨N,by rw[y];exact Aa0.mpr (.inl s),?_⟩
  cases e with
  | nil=>
   rw[Bl]at y;rw[y]at Y ⊢;refine .inr ?_;have all:=G.conn (λx=>x∈hg r k) s λa b J M=>Y a J b M
   have:=dX1 (Cs (n:=n)) (m:=hg r k) λx g=>all x (Ab5.mp g)
   rwa [Bo]at this
  | cons x e=>
   rw[y,Ab7,Aw];rcases U with z | z
   .exact .inl (by lia)
   .exact .inr (by lia)
theorem dV8 (G:Good n r):(hg r n).length=n:=by
 obtain⟨h1,_,e⟩:=cU9 G n
 have:=aZ9 h1.nd h1.lt
 rcases e with z | z <;> lia
theorem cW4 (G:Good n r){l met:AB}(h:Hg n met):(hgF r l met).length<=n:=aZ9 (bG5 G l h).1.nd (bG5 G l h).1.lt
end
end TT
set_option maxHeartbeats 1000000
namespace K48
open PySem L2 LV PyProof.Rows
structure Dx (m:Nat)(dr tr:AA):Prop where
 m7:m<=7
 len:dr.length=m+3
 good:TT.Good (m+3) (TT.trn dr)
theorem dW6 {dr:AA}{p:Nat}(h:p<dr.length):dr[p]? = some (TT.trn dr p):=by
 unfold TT.trn;rw[Aa2 h];rfl
theorem cP7 (q:Int)(l:AB):(nI l).any (λz=>PyData.eqv z (.int q))=decide (q∈l.map λ(x:Nat)=>(x:Int)):=by
 unfold nI;induction l with
 | nil=>rfl
 | cons y l e=>
  rw[Ac7,List.any_cons,e,cD1];by_cases h:(y:Int)=q
  .subst h;simp
  .have:¬q=(y:Int):=λz=>h z.symm
   simp[h,this]
theorem dY4 {l:AB}{x:Nat}(h:x∈l):atI (nI l) ((l.idxOf x:Nat)-1:Int)=some (.int (TT.prd l x:Nat)):=by
 have k:=Cb.mpr h
 unfold TT.prd;by_cases e:l.idxOf x=0
 .rw[Ae e,e];have r:l=l.dropLast++[TT.gi l (l.length-1)]:=by
   have h1:=List.dropLast_concat_getLast (l:=l) (by intro z;rw[z]at h;cases h)
   have g:TT.gi l (l.length-1)=l.getLast (by intro z;rw[z]at h;cases h):=by
    unfold TT.gi;rw[Ac0,Aa2 (by lia),List.getLast_eq_getElem];rfl
   rw[g];exact h1.symm
  generalize TT.gi l (l.length-1)=y at r;rw[r,j4];exact aF2
 .rw[Ac e];refine M3 (l.idxOf x-1) (by lia) ?_
  unfold nI;rw[Aa9,TT.bQ5 (by lia)];rfl
theorem Dx.tle {m:Nat}{dr tr:AA}(h:Dx m dr tr)(p:Nat):(TT.trn dr p).length<=10:=by
 have:=TT.aZ9 (h.good.nd p) (h.good.lt p)
 have:=h.m7
 lia
theorem Dx.lt {m:Nat}{dr tr:AA}(h:Dx m dr tr){p q:Nat}(e:q∈TT.trn dr p):p<m+3:=by
 rcases Du p (m+3) with z | z
 .exact z
 .rw[h.good.hi p z]at e;cases e
theorem Dx.at_ {m:Nat}{dr tr:AA}(h:Dx m dr tr){p:Nat}(hp:p<m+3):atI (dr.map tN) (p:Int)=some (tN (TT.trn dr p)):=
 M3 p rfl (by rw[Aa9,dW6 (by rw[h.len];exact hp)];rfl)
theorem dS9 {a b:AB}(h:cL a=cL b):a=b:=by
 unfold cL at h
 have:=congrArg (List.map Int.toNat) h
 simpa[Ae2,Function.comp_def]using this
theorem dS3 (a b:AC):PyData.eqv (tI a) (tI b)=decide (a=b):=by
 unfold tI;rw[PyData.eqv];exact aJ8 (f:=PyData.int) cD1 a b
theorem bW1 (l:AB):Fit (tN l):=by rw[bC6];exact FitN.fit (cY1 _)
theorem bB4:D4 ["_law_found"] ["_law_found"] (C3 aB6):=⟨rfl,rfl,rfl,by decide +kernel,rfl,by decide +kernel,by decide +kernel⟩
theorem eH2 {K:Frag}{t:TE}{ρ:List Sl}{ds es:AD}(h:EF K t ρ ds)(e:ds=es):EF K t ρ es:=e▸h
theorem bI2 {l:AB}{d:PyData}(h:d∈nI l):∃q∈l,d=.int (q:Int):=by
 unfold nI at h;obtain⟨q,e,rfl⟩:=Aa8.mp h;exact⟨q,e,rfl⟩
def eB5 (ds:AD)(d:PyData):Prop:=∃i:Int,ds=[.int i]/\d=.bool true
def Bg (m:Nat)(dr:AA):Prop:=∀p,p<m+3->TT.G4 (TT.trn dr p)=TT.trn dr p
theorem sc__law_third:D4 ["_law_turns", "_law_p", "_law_q", "_law_turn"] ["_law_turns", "_law_p", "_law_q"] (C3 w5):=⟨rfl,rfl,rfl,by decide +kernel,rfl,by decide +kernel,by decide +kernel⟩
def eA6 (ds:AD)(d:PyData):Prop:=∃(m:Nat) (dr tr:AA) (p q:Nat),Dx m dr tr/\q∈TT.trn dr p/\ds=[.tuple (dr.map tN),.int (p:Int),.int (q:Int)]/\d=.int (TT.th (TT.trn dr) p q:Nat)
theorem sc__law_hangs:D4 ["_law_turns", "_law_met", "_law_p", "_law_one"] ["_law_turns"] (C3 t9):=⟨rfl,rfl,rfl,by decide +kernel,rfl,by decide +kernel,by decide +kernel⟩
theorem sc__law_is_drawing:D4 ["_law_turns", "_law_ties", "_law_p", "_law_turn", "_law_q"] ["_law_turns"] (C3 S5):=⟨rfl,rfl,rfl,by decide +kernel,rfl,by decide +kernel,by decide +kernel⟩
def fHg (met:AB):PyData->Option PyData
 | .int q=>if(nI met).any (λz=>PyData.eqv z (.int q)) then none else some (.int q)
 | _=>none
theorem dP1 (q:Nat)(l:AB):(nI l).any (λz=>PyData.eqv z (.int (q:Int)))=decide (q∈l):=by
 rw[cP7];refine Cz.mpr ⟨λh=>?_,λh=>Aa8.mpr ⟨q,h,rfl⟩⟩
 obtain⟨w,y,e⟩:=Aa8.mp h
 have:w=q:=by lia
 exact this▸y
theorem dI3 (met l:AB):(nI l).filterMap (fHg met)=nI (l.filter λq=>decide (q∉met)):=by
 unfold nI;induction l with
 | nil=>rfl
 | cons q l y=>
  rw[Ac7,Ak,List.filter_cons];have e:fHg met (.int (q:Int))=if decide (q∈met) then none else some (.int (q:Int)):=by
   show(if(nI met).any (λz=>PyData.eqv z (.int (q:Int))) then none else some (PyData.int (q:Int)))=_
   rw[dP1]
  rw[e];by_cases h:q∈met
  .rw[Ae (Bu h),Ac (by simpa using h)];exact y
  .rw[Ac (by simpa using h),Ae (by simpa using h)]
   show _::_=_::_
   rw[y]
def eA5 (ds:AD)(d:PyData):Prop:=∃(m:Nat) (dr tr:AA),Dx m dr tr/\ds=[.tuple (dr.map tN)]/\d=.bool true
def dM9 (ds:AD)(d:PyData):Prop:=∃(m:Nat) (dr tr:AA),Dx m dr tr/\Bg m dr/\ds=[.tuple (dr.map tN)]/\d=.bool true
def t4 (r:Nat->AB)(n:Nat):Nat:=((List.range n).map λq=>(r q).length).sum
theorem cJ3 (r:Nat->AB)(n:Nat):t4 r (n+1)=t4 r n+(r n).length:=by unfold t4;rw[Bd,Ad2,List.sum_append];simp
section
variable {P:Program}{w:World}{K:Frag}{mg:Str->Option Value}{base:Heap}{a:Ad}
theorem eI6 (T:Tx K mg a):FnOk P w K mg base CX0 1 a.v1 a.aA6 ["_law_found"] (spV K eB5):=by
 refine T.aN1.ok bB4 (T5 (by rintro ds d ⟨_,e,_⟩;rw[e];rfl)) (λz A y s H vs Q E k h=>?_)
 obtain⟨ds,S,d,g,r,⟨x,rfl,rfl⟩,q⟩:=h;refine⟨_,(B0 (D2 (cQ5 (B8 (cQ2 K) (by rfl) T.N7 boot_isinstance (A0 (pv 0) (A0 (bR1 rfl T.bS5 boot_int) A4))) (cW3 (dQ9 (B8 (cQ2 K) (by rfl) T.N7 boot_isinstance (A0 (pv 0) (A0 (bR1 rfl T.bW7 boot_bool) A4)))))))),K1 g r ?_ q⟩
 exact M8 (dO5 (a:=true) (b:=true) (bN7 (d:=.int x) (A1 (i:=0) rfl)) λ_=>eG7 (a:=false) (bN7 (d:=.int x) (A1 (i:=0) rfl))) rfl
theorem eE7 (T:Tx K mg a):FnOk P w K mg base CX0 1 a.t8 a.aB3 ["_law_turns", "_law_p", "_law_q"] (spV K eA6):=by
 refine T.X3.ok sc__law_third (T5 λds d ⟨_,_,_,_,_,_,_,e,_⟩=>by rw[e];rfl) (λJ A U s H vs Q E R h=>?_)
 obtain⟨ds,S,d,M,r,⟨m,y,tr,p,z,Y,N,rfl,rfl⟩,q⟩:=h;refine⟨_,(A6 (C0 (i:=3) sc__law_third.nd rfl (Or.inl rfl) (B6 (ixK K) (pv 0) (pv 2) (λ_ _=>rfl)))
   (B0 (D2 (B6 (ixK K) (pv 3) (B2 L4 (J9 PySem.F.plainAttrs_tuple PySem.F.slot_tuple_index PySem.F.type_tuple_index (m9 K) (pv 3) (A0 (pv 1) A4)) A7) (λ_ _=>rfl))))),K1 M r ?_ q⟩
 have X:=Y.good.sym N
 refine B4 (F8 (d:=tN (TT.trn y z)) (E4 (ds:=y.map tN) (A1 (i:=0) rfl) (A1 (i:=2) rfl) rfl (Y.at_ (Y.lt X))) ?_);have h:=aV4 (K:=K) (m:=false) (ρ:=[.val (.tuple (y.map tN)),.val (.int (p:Int)),.val (.int (z:Int)),.val (tI ((TT.trn y z).map λ(x:Nat)=>(x:Int)))]) (ta:=J7 3) (tb:=J7 1) (k:=(p:Int)) (A1 (i:=3) rfl) (A1 (i:=1) rfl) (Aa8.mpr ⟨p,X,rfl⟩)
 rw[aE4 p (TT.trn y z),<- bC6]at h;exact M8 (E4 (ds:=nI (TT.trn y z)) (A1 (i:=3) rfl) (L9 (g:=λi j=>i-j) h A9) rfl (dY4 X)) rfl
theorem eE5 (T:Tx K mg a):FnOk P w K mg base CX0 1 a.aB4 a.w4 ["_law_turns"] (spV K eA5):=by
 refine T.aN4.ok sc__law_hangs (T5 (by rintro ds d ⟨_,_,_,_,e,_⟩;rw[e];rfl)) (λcdv A outer s H vs Q E hr h=>?_)
 obtain⟨ds,S,d,hS,r,⟨m,g,tr,N,rfl,rfl⟩,q⟩:=h;refine⟨_,(A6 (C0 (i:=1) sc__law_hangs.nd rfl (Or.inr rfl) (C9 (A0 A7 A4)))
   (A6 (G5 Aj rfl (G8 rfl T.J0 (A0 (B8 (T9 K) (by rfl) T.F9 Ah (A0 (pv 0) A4)) A4)) (C5 (i:=2) sc__law_hangs.nd rfl (Or.inl rfl)) (B0 (G5 Aj rfl (P3 (K3 (eG8 K) (by rfl) T.aD8 boot_list (A0 (pv 1) A4))) (C5 (i:=3) sc__law_hangs.nd rfl (Or.inl rfl)) (B0 (C0 (i:=1) sc__law_hangs.nd rfl (Or.inr rfl) (B2 (J4 K) (pv 1) (X1 (T:=["_law_q"]) (N':=["_law_q", "_law_met"]) (is:=[1]) rfl (.of rfl rfl rfl (by exact⟨rfl,trivial⟩) rfl rfl rfl (by exact⟨⟨_,rfl,by first | exact .inl rfl | exact .inr rfl,by first | exact .inl rfl | exact .inr rfl⟩,trivial⟩)) (aJ5 (B6 (ixK K) (pv 0) (pv 3) (λ_ _=>rfl))) (O8 (by decide)) λ_ _ _ _=>⟨(C5 (i:=0) (by decide +kernel:(["_law_q", "_law_met"]:AG).Nodup) rfl (Or.inl rfl)),(V9 (B9 (aO7 K hr) (pv 0) (pv 1) rfl)),(pv 0)⟩)))))))
   (B0 (D2 (aF1 i5 (B8 (T9 K) (by rfl) T.F9 Ah (A0 (pv 1) A4)) (B8 (T9 K) (by rfl) T.F9 Ah (A0 (pv 0) A4)) (C7 _)))))),K1 hS r ?_ q⟩
 have m7:=N.m7
 have hdl:=N.len
 have F:=N.good
 have R:((g.map tN).length:Int)=((m+3:Nat):Int):=by rw[Aa3,hdl]
 refine B4 (K2 (ds:=nI (TT.hg (TT.trn g) 0)) (J8 (ds:=[.int 0]) (A5 A9 B1)) ?_ (show 1<4 by decide))
 refine B4 (N2 (Q4 (j:=((m+3:Nat):Int)) (A5 (by rw[<- R];exact O7 (ds:=g.map tN) (A5 (A1 (i:=0) rfl) B1)) B1) (by lia) (by lia)) (λi ρ=>∃x2 U,(x2.nb=true/\U.nb=true)/\ρ=[.val (.tuple (g.map tN)),.own (nI (TT.hg (TT.trn g) i)),x2,U]) ⟨.no,.no,⟨rfl,rfl⟩,rfl⟩ ?_ ?_)
 .rintro p d _ k ⟨x2,U,⟨_,b3⟩,rfl⟩;obtain⟨rfl,hp⟩:=Q6 k;have M:=(TT.cU9 F p).1;refine⟨_,D5,?_⟩;refine N2 (U0 (EF.e' (dC8 (d:=.list (nI (TT.hg (TT.trn g) p))) (ds:=nI (TT.hg (TT.trn g) p)) (A5 (K4 (i:=1) rfl) B1) rfl (F5 _)))) (λj ρ=>∃U,U.nb=true/\ρ=[.val (.tuple (g.map tN)),.own (nI (TT.hgF (TT.trn g) ((TT.hg (TT.trn g) p).take j) (TT.hg (TT.trn g) p))),.val (.int (p:Int)),U]) ⟨U,b3,rfl⟩ ?_ ?_
  .rintro j d _ k ⟨y3,_,rfl⟩;unfold nI at k;rw[Aa9]at k;obtain⟨X,D,rfl⟩:=Bn.mp k;have ho:=M.lt X (Ar D);have hle:=TT.cW4 F (l:=(TT.hg (TT.trn g) p).take j) M;have Y:=TT.cW4 F (l:=(TT.hg (TT.trn g) p).take (j+1)) M;have J:TT.hgF (TT.trn g) ((TT.hg (TT.trn g) p).take (j+1)) (TT.hg (TT.trn g) p)=TT.hgS (TT.trn g) (TT.hgF (TT.trn g) ((TT.hg (TT.trn g) p).take j) (TT.hg (TT.trn g) p)) X:=by
    rw[Dj,D];exact TT.cO6 _ _ _
   rw[J]at Y;generalize TT.hgF (TT.trn g) ((TT.hg (TT.trn g) p).take j) (TT.hg (TT.trn g) p)=met at hle Y J;have tl:=N.tle X;refine⟨_,D5,?_⟩;show W K _ [.val (.tuple (g.map tN)),.own (nI met),.val (.int (p:Int)),.val (.int (X:Int))] _;refine K2 (ds:=nI met++nI ((TT.trn g X).filter λq=>decide (q∉met))) (bA3 (K4 (i:=1) rfl) (EF.e' (eH2 (P2 (m:=true) (fHg met) (aW6 (ds:=nI (TT.trn g X)) (E4 (ds:=g.map tN) (A1 (i:=0) rfl) (A1 (i:=3) rfl) rfl (N.at_ ho))) (by rw[C8];unfold sizeLine;lia) λd k=>?_) (dI3 met _))) (F5 _) (F5 _) ?_) ⟨.val (.int (X:Int)),rfl,?_⟩ (show 1<4 by decide)
   .obtain⟨z,_,rfl⟩:=bI2 k;refine⟨_,D5,?_⟩;have B:=D1 (K:=K) (ρ:=[.val (.int (z:Int)),.bor (.list (nI met))]) (aY6 (d:=.int (z:Int)) (A1 (i:=0) rfl) (eA3 (i:=1) rfl) (ds:=nI met) rfl (aT6 _) ((bQ2 (n:=0) λd k=>by obtain⟨q,_,rfl⟩:=bI2 k;exact bS2 0 _).fit))
    show match (if(nI met).any (λy=>PyData.eqv y (.int (z:Int))) then none else some (PyData.int (z:Int))) with | none=>_ | some y=>_
    cases h:(nI met).any (λy=>PyData.eqv y (.int (z:Int))) with
    | true=>rw[h]at B;exact B
    | false=>rw[h]at B;exact⟨B,A1 (i:=0) rfl⟩
   .have hfl:=List.length_filter_le (λq=>decide (q∉met)) (TT.trn g X)
    rw[C8,C8];unfold sizeLine;lia
   .show [_,Sl.own _,_,_]=[_,Sl.own _,_,_]
    rw[J,<- j4];rfl
  .rintro _ ⟨y3,b3',rfl⟩;refine⟨.val (.int (p:Int)),y3,⟨rfl,b3'⟩,?_⟩;rw[C8,Cg];rfl
 .rintro _ ⟨x2,U,_,rfl⟩;rw[U9];have hl:=TT.dV8 F;refine M8 (aD5 (O7 (ds:=nI (TT.hg (TT.trn g) (m+3))) (A5 (K4 (i:=1) rfl) B1)) (O7 (ds:=g.map tN) (A5 (A1 (i:=0) rfl) B1))) ?_;rw[R,C8,hl,Bu rfl]
theorem eD1 (T:Tx K mg a):FnOk P w K mg base CX0 2 a.R5 a.R7 ["_law_turns"] (spV K dM9):=by
 have Y:FnOk P w K mg base CX0 1 _ _ _ _:=eE7 T
 have U:FnOk P w K mg base CX0 1 _ _ _ _:=eI6 T
 have X:FnOk P w K mg base CX0 1 _ _ _ _:=eE5 T
 refine T.a6.ok sc__law_is_drawing (T5 (by rintro ds d ⟨_,_,_,_,_,e,_⟩;rw[e];rfl)) (λcdv A outer s H vs Q E hr h=>?_)
 obtain⟨ds,S,d,hS,r,⟨m,y,tr,D,bg,rfl,rfl⟩,q⟩:=h;refine⟨_,(A6 (N5 (PW.pt (T2 (aH7 (aJ2 (B8 (cQ2 K) (by rfl) T.N7 boot_isinstance (A0 (pv 0) (A0 (bR1 rfl T.P1 boot_tuple) A4))))) (T2 (B9 aH2 (B8 (T9 K) (by rfl) T.F9 Ah (A0 (pv 0) A4)) A7 (C7 _)) (v5 (B9 t5 (B8 (T9 K) (by rfl) T.F9 Ah (A0 (pv 0) A4)) A7 (C7 _)))))) (B0 (D2 aC4)) H9)
   (A6 (C0 (i:=1) sc__law_is_drawing.nd rfl (Or.inl rfl) A7)
   (A6 (G5 Aj rfl (G8 rfl T.J0 (A0 (B8 (T9 K) (by rfl) T.F9 Ah (A0 (pv 0) A4)) A4)) (C5 (i:=2) sc__law_is_drawing.nd rfl (Or.inl rfl)) (A6 (C0 (i:=3) sc__law_is_drawing.nd rfl (Or.inl rfl) (B6 (ixK K) (pv 0) (pv 2) (λ_ _=>rfl)))
   (A6 (N5 (PW.pt (T2 (aH7 (aJ2 (B8 (cQ2 K) (by rfl) T.N7 boot_isinstance (A0 (pv 3) (A0 (bR1 rfl T.P1 boot_tuple) A4))))) (T2 (B9 aH0 (B8 bA7 (by rfl) T.F9 Ah (A0 (K3 (bW3 K rfl) (by rfl) T.cO1 boot_set (A0 (pv 3) A4)) A4)) (B8 (T9 K) (by rfl) T.F9 Ah (A0 (pv 3) A4)) (C7 _)) (T2 (B9 aH2 (B8 (T9 K) (by rfl) T.F9 Ah (A0 (pv 3) A4)) A7 (C7 _)) (v5 (B9 aH0 (B6 (ixK K) (pv 3) A7 (λ_ _=>rfl)) (B8 (bC2 K rfl) (by rfl) T.bQ1 boot_min (A0 (pv 3) A4)) (C7 _))))))) (B0 (D2 aC4)) H9)
   (A6 (G5 Aj rfl (aJ5 (pv 3)) (C5 (i:=4) sc__law_is_drawing.nd rfl (Or.inl rfl)) (B0 (N5 (PW.pt (T2 (aH7 (aJ2 (C6 U (hr.mono (by decide)) rfl T.bJ8 T.aN1.kp T.bL7 .nil E2 (A0 (pv 4) A4)))) (T2 (B9 aH2 (pv 4) A7 (C7 _)) (T2 (B9 cX3 (pv 4) (B8 (T9 K) (by rfl) T.F9 Ah (A0 (pv 0) A4)) (C7 _)) (T2 (B9 i5 (pv 4) (pv 2) (C7 _)) (v5 (B9 (aO7 K hr) (pv 2) (B6 (ixK K) (pv 0) (pv 4) (λ_ _=>rfl)) rfl))))))) (B0 (D2 aC4)) H9)))
   (B0 (C0 (i:=1) sc__law_is_drawing.nd rfl (Or.inl rfl) (B2 G0 (pv 1) (B8 (T9 K) (by rfl) T.F9 Ah (A0 (pv 3) A4)))))))))
   (A6 (N5 (PW.pt (T2 (B9 aH0 (pv 1) (B2 L4 (B2 R6 A7 (B8 (T9 K) (by rfl) T.F9 Ah (A0 (pv 0) A4))) A7) (C7 _)) (v5 (B9 aH0 (C6 Y (hr.mono (by decide)) rfl T.w6 T.X3.kp T.aB5 .nil E2 (A0 (pv 0) (A0 A7 (A0 A7 A4)))) A7 (C7 _))))) (B0 (D2 aC4)) H9)
   (A6 (G5 Aj rfl (G8 rfl T.J0 (A0 (B8 (T9 K) (by rfl) T.F9 Ah (A0 (pv 0) A4)) A4)) (C5 (i:=2) sc__law_is_drawing.nd rfl (Or.inl rfl)) (B0 (G5 Aj rfl (aJ5 (B6 (ixK K) (pv 0) (pv 2) (λ_ _=>rfl))) (C5 (i:=4) sc__law_is_drawing.nd rfl (Or.inl rfl)) (B0 (N5 (B9 aH0 (C6 Y (hr.mono (by decide)) rfl T.w6 T.X3.kp T.aB5 .nil E2 (A0 (pv 0) (A0 (pv 4) (A0 (C6 Y (hr.mono (by decide)) rfl T.w6 T.X3.kp T.aB5 .nil E2 (A0 (pv 0) (A0 (pv 2) (A0 (pv 4) A4)))) A4)))) (pv 2) (C7 _)) (B0 (D2 aC4)) H9)))))
   (B0 (D2 (C6 X (hr.mono (by decide)) rfl T.bJ5 T.aN4.kp T.bM3 .nil E2 (A0 (pv 0) A4))))))))),K1 hS r ?_ q⟩
 have m7:=D.m7
 have hdl:=D.len
 have F:=D.good
 have hln:((y.map tN).length:Int)=((m+3:Nat):Int):=by rw[Aa3,hdl]
 have J:∀(mm:Bool) (x1 x2 B N:Sl),LV.E K mm (tCB _ (K7 (J7 0) S8)) [.val (.tuple (y.map tN)),x1,x2,B,N] (.int ((m+3:Nat):Int)):=λmm x1 x2 B N=>by rw[<- hln];exact O7 (ds:=y.map tN) (A5 (A1 (i:=0) rfl) B1)
 refine B4 (V4 (b := !true||(decide (((m+3:Nat):Int)<3)||decide (((m+3:Nat):Int)>10))) (aD0 (aZ3 (t_b (bN7 (T := "tuple") (d:=.tuple (y.map tN)) (A1 (i:=0) rfl)))) λ_=>aD0 (D1 (U7 (g:=λi j=>decide (i<j)) (J _ _ _ _ _) (A9 (i:=3)))) λ_=>D1 (U7 (g:=λi j=>decide (i>j)) (J _ _ _ _ _) (A9 (i:=10)))) (λh=>by simp at h;lia) (λ_=>M2 ?_))
 refine B4 (F8 (d:=.int ((t4 (TT.trn y) 0:Nat):Int)) (A9 (i:=0)) ?_);refine B4 (N2 (Q4 (j:=((m+3:Nat):Int)) (A5 (J _ _ _ _ _) B1) (by lia) (by lia)) (λi ρ=>∃x2 B N,ρ=[.val (.tuple (y.map tN)),.val (.int ((t4 (TT.trn y) i:Nat):Int)),x2,B,N]) ⟨.no,.no,.no,rfl⟩ ?_ ?_)
 .rintro p d _ hd ⟨x2,B,N,rfl⟩;obtain⟨rfl,hp⟩:=Q6 hd;have hp:p<m+3:=by lia
  have tl:=D.tle p
  have h2:=F.two p hp
  refine⟨_,D5,?_⟩;refine B4 (F8 (d:=tN (TT.trn y p)) (E4 (ds:=y.map tN) (A1 (i:=0) rfl) (A1 (i:=2) rfl) rfl (D.at_ hp)) ?_);show W K _ [.val (.tuple (y.map tN)),.val (.int ((t4 (TT.trn y) p:Nat):Int)),.val (.int (p:Int)),.val (tN (TT.trn y p)),N] _;have hne:TT.trn y p≠[]:=λz=>by rw[z]at h2;simp at h2
  obtain⟨mm1,mm2⟩:=TT.aO0 hne;have hhead:atI (nI (TT.trn y p)) 0=some (.int (TT.mn (TT.trn y p):Int)):=by
   obtain⟨t,et⟩:=TT.bV5 hne;rw[bg p hp]at et;refine M3 0 rfl ?_;unfold nI;have e0:(TT.trn y p)[0]? = some (TT.mn (TT.trn y p)):=by
    generalize TT.mn (TT.trn y p)=w at et ⊢;rw[et];rfl
   rw[Aa9,e0];rfl
  have e1:=cJ2 (K:=K) (m:=false) (ρ:=[.val (.tuple (y.map tN)),.val (.int ((t4 (TT.trn y) p:Nat):Int)),.val (.int (p:Int)),.val (tN (TT.trn y p)),N]) (t:=K7 (J7 3) S8) (l:=cL (TT.trn y p)) (A5 (by rw[<- bT5];exact A1 (i:=3) rfl) B1) (by unfold cL;rw[Aa3];lia) (by unfold cL;rw[Ac6,Ae0];exact(Ac6.mp (F.nd p)).imp λh e=>h (by lia))
  rw[show((cL (TT.trn y p)).length:Int)=(((TT.trn y p).length:Nat):Int) by unfold cL;rw[Aa3]]at e1
  have e2:=O7 (K:=K) (m:=false) (ρ:=[.val (.tuple (y.map tN)),.val (.int ((t4 (TT.trn y) p:Nat):Int)),.val (.int (p:Int)),.val (tN (TT.trn y p)),N]) (ds:=nI (TT.trn y p)) (A5 (A1 (i:=3) rfl) B1)
  rw[C8]at e2;refine B4 (V4 (b := !true||(!decide ((((TT.trn y p).length:Nat):Int)=(((TT.trn y p).length:Nat):Int))||(decide ((((TT.trn y p).length:Nat):Int)<2) || !decide ((TT.mn (TT.trn y p):Int)=(TT.mn (TT.trn y p):Int))))) (aD0 (aZ3 (t_b (bN7 (T := "tuple") (d:=tN (TT.trn y p)) (A1 (i:=3) rfl)))) λ_=>aD0 (D1 (aH6 e1 e2)) λ_=>aD0 (D1 (U7 (g:=λi j=>decide (i<j)) e2 (A9 (i:=2)))) λ_=>D1 (aH6 (E4 (ds:=nI (TT.trn y p)) (A1 (i:=3) rfl) (A9 (i:=0)) rfl hhead) (cT0 (l:=cL (TT.trn y p)) (M:=(TT.mn (TT.trn y p):Int)) (A5 (by rw[<- bT5];exact A1 (i:=3) rfl) B1) ⟨Aa8.mpr ⟨_,mm1,rfl⟩,λc hc=>by
   obtain⟨x,hx,rfl⟩:=Aa8.mp hc
   have:=mm2 x hx
   lia⟩))) (λh=>by simp at h;lia) (λ_=>M2 ?_))
  refine B4 (N2 (aW6 (ds:=nI (TT.trn y p)) (A1 (i:=3) rfl)) (λk ρ=>∃N,ρ=[.val (.tuple (y.map tN)),.val (.int ((t4 (TT.trn y) p:Nat):Int)),.val (.int (p:Int)),.val (tN (TT.trn y p)),N]) ⟨N,rfl⟩ ?_ ?_)
  .rintro k d _ hd ⟨y4,rfl⟩;obtain⟨R,hq,rfl⟩:=bI2 (Ar hd);have hs:=F.sym hq;have lq:=D.lt hs;have hself:R≠p:=λe=>F.self p (e▸hq)
   refine⟨_,D5,?_⟩;show W K _ [.val (.tuple (y.map tN)),.val (.int ((t4 (TT.trn y) p:Nat):Int)),.val (.int (p:Int)),.val (tN (TT.trn y p)),.val (.int (R:Int))] _;refine V4 (b := !true||(decide ((R:Int)<0)||(decide ((R:Int)≥((m+3:Nat):Int))||(decide ((R:Int)=(p:Int)) || !((nI (TT.trn y R)).any λz=>PyData.eqv z (.int (p:Int))))))) (aD0 (aZ3 (t_b (E6 (A5 (A1 (i:=4) rfl) B1) ⟨(R:Int),rfl,rfl⟩))) λ_=>aD0 (D1 (U7 (g:=λi j=>decide (i<j)) (A1 (i:=4) rfl) (A9 (i:=0)))) λ_=>aD0 (D1 (U7 (g:=λi j=>decide (i≥j)) (A1 (i:=4) rfl) (J _ _ _ _ _))) λ_=>aD0 (D1 (aD5 (A1 (i:=4) rfl) (A1 (i:=2) rfl))) λ_=>D1 (aY6 (d:=.int (p:Int)) (A1 (i:=2) rfl) (E4 (d':=tN (TT.trn y R)) (ds:=y.map tN) (A1 (i:=0) rfl) (A1 (i:=4) rfl) rfl (D.at_ lq)) (ds:=nI (TT.trn y R)) rfl (aT6 _) (bW1 _))) (λh=>?_) (λ_=>M2 ⟨_,rfl⟩)
   rw[dP1,Bu hs]at h;simp at h
   lia
  .rintro _ ⟨y4,rfl⟩;refine F8 (d:=.int ((t4 (TT.trn y) (p+1):Nat):Int)) ?_ ⟨.val (.int (p:Int)),.val (tN (TT.trn y p)),y4,rfl⟩;rw[cJ3,Int.natCast_add]
   have:=O7 (K:=K) (m:=false) (ρ:=[.val (.tuple (y.map tN)),.val (.int ((t4 (TT.trn y) p:Nat):Int)),.val (.int (p:Int)),.val (tN (TT.trn y p)),y4]) (ds:=nI (TT.trn y p)) (A5 (A1 (i:=3) rfl) B1)
   rw[C8]at this;exact L9 (g:=λi j=>i+j) (A1 (i:=1) rfl) this
 .rintro _ ⟨x2,B,N,rfl⟩;rw[U9];show W K _ [.val (.tuple (y.map tN)),.val (.int ((t4 (TT.trn y) (m+3):Nat):Int)),x2,B,N] _;have hsum:((t4 (TT.trn y) (m+3):Nat):Int)=6*((m+3:Nat):Int)-12:=by
   have:=F.sum
   unfold t4
   lia
  have h02:2∈TT.trn y 0:=F.corner 0 2 (by lia) (by lia) (by lia)
  have h1:TT.th (TT.trn y) 0 2=1:=(TT.cN8 (F.nd 2) F.out (TT.cE1 (TT.M4 F.out).2)).symm
  refine B4 (V4 (b := !decide (((t4 (TT.trn y) (m+3):Nat):Int)=6*((m+3:Nat):Int)-12) || !decide (((TT.th (TT.trn y) 0 2:Nat):Int)=1)) (aD0 (D1 (aH6 (A1 (i:=1) rfl) (L9 (g:=λi j=>i-j) (e_i (g:=λi j=>i*j) (A9 (i:=6)) (J _ _ _ _ _) ⟨Nat.lt_trans (show(6:Int).natAbs<2^10 by decide) (Nat.pow_lt_pow_right (by decide) (by decide)),Nat.lt_trans (show((m+3:Nat):Int).natAbs<1024 by lia) (show 2^10<2^512 from Nat.pow_lt_pow_right (by decide) (by decide))⟩) (A9 (i:=12))))) λ_=>D1 (aH6 (E6 (A5 (A1 (i:=0) rfl) (A5 (A9 (i:=0)) (A5 (A9 (i:=2)) B1))) ⟨m,y,tr,0,2,D,h02,rfl,rfl⟩) (A9 (i:=1)))) (λh=>by rw[hsum,h1]at h;simp at h) (λ_=>M2 ?_))
  refine B4 (N2 (Q4 (j:=((m+3:Nat):Int)) (A5 (J _ _ _ _ _) B1) (by lia) (by lia)) (λi ρ=>∃x2 N,ρ=[.val (.tuple (y.map tN)),.val (.int ((t4 (TT.trn y) (m+3):Nat):Int)),x2,B,N]) ⟨x2,N,rfl⟩ ?_ ?_)
  .rintro p d _ hd ⟨y2,y4,rfl⟩;obtain⟨rfl,hp⟩:=Q6 hd;have hp:p<m+3:=by lia
   refine⟨_,D5,?_⟩;show W K _ [.val (.tuple (y.map tN)),.val (.int ((t4 (TT.trn y) (m+3):Nat):Int)),.val (.int (p:Int)),B,y4] _;refine N2 (aW6 (ds:=nI (TT.trn y p)) (E4 (ds:=y.map tN) (A1 (i:=0) rfl) (A1 (i:=2) rfl) rfl (D.at_ hp))) (λk ρ=>∃N,ρ=[.val (.tuple (y.map tN)),.val (.int ((t4 (TT.trn y) (m+3):Nat):Int)),.val (.int (p:Int)),B,N]) ⟨y4,rfl⟩ ?_ ?_
   .rintro k d _ hd ⟨z4,rfl⟩;obtain⟨R,hq,rfl⟩:=bI2 (Ar hd);refine⟨_,D5,?_⟩;show W K _ [.val (.tuple (y.map tN)),.val (.int ((t4 (TT.trn y) (m+3):Nat):Int)),.val (.int (p:Int)),B,.val (.int (R:Int))] _;refine V4 (b := !decide (((TT.th (TT.trn y) R (TT.th (TT.trn y) p R):Nat):Int)=(p:Int))) (D1 (aH6 (E6 (A5 (A1 (i:=0) rfl) (A5 (A1 (i:=4) rfl) (A5 (E6 (d:=.int (TT.th (TT.trn y) p R:Nat)) (A5 (A1 (i:=0) rfl) (A5 (A1 (i:=2) rfl) (A5 (A1 (i:=4) rfl) B1))) ⟨m,y,tr,p,R,D,hq,rfl,rfl⟩) B1))) ⟨m,y,tr,R,TT.th (TT.trn y) p R,D,(F.th_mem hq).1,rfl,rfl⟩) (A1 (i:=2) rfl))) (λh=>by rw[F.th_rot hq]at h;simp at h) (λ_=>M2 ⟨_,rfl⟩)
   .rintro _ ⟨z4,rfl⟩;exact⟨_,_,rfl⟩
  .rintro _ ⟨y2,y4,rfl⟩;exact M8 (E6 (A5 (A1 (i:=0) rfl) B1) ⟨m,y,tr,D,rfl,rfl⟩) rfl
end
set_option maxHeartbeats 1000000
theorem sc__law_round:D4 ["_law_turns", "_law_outs", "_law_v", "_law_triple", "_law_row_here", "_law_at", "_law_w", "_law_due"] ["_law_turns", "_law_outs", "_law_v"] (C3 aA3):=⟨rfl,rfl,rfl,by decide +kernel,rfl,by decide +kernel,by decide +kernel⟩
theorem sc__law_is_outs:D4 ["_law_turns", "_law_outs", "_law_v", "_law_i"] ["_law_turns", "_law_outs"] (C3 Z8):=⟨rfl,rfl,rfl,by decide +kernel,rfl,by decide +kernel,by decide +kernel⟩
theorem cX0 (p:Nat)(l:AB):(nI l).any (λz=>PyData.eqv z (.int (p:Int)))=decide (p∈l):=by
 rw[cP7];refine Cz.mpr ⟨λh=>?_,λh=>Aa8.mpr ⟨p,h,rfl⟩⟩
 obtain⟨q,y,e⟩:=Aa8.mp h
 have:q=p:=by lia
 rw[<- this];exact y
def sgn (tr:AA)(v w:Nat):Option Nat:=
 if w∈tr.getD (v-3) [] then some (97+(tr.getD (v-3) []).idxOf w)
 else if 2<w/\v∈tr.getD (w-3) [] then some (48+(tr.getD (w-3) []).idxOf v) else none
def dS6 (l:AB)(x:Nat):AB:=l.drop (l.idxOf x)++l.take (l.idxOf x)
def rnS (dr tr:AA)(v:Nat):AB:=(dS6 (dr.getD v []) ((tr.getD (v-3) []).getD 0 0)).filterMap (sgn tr v)
structure Rn (dr tr:AA)(v:Nat):Prop where
 h3:3<=v
 hv:v<dr.length
 ht:v-3<tr.length
 h33:∀t∈tr,t.length=3
 hl:(dr.getD v []).length<=20
 hx:(tr.getD (v-3) []).getD 0 0∈dr.getD v []
 hw:∀w∈dr.getD v [],(2<w->w-3<tr.length)/\(sgn tr v w).isSome=true
 eq:rnS dr tr v=[97]++List.replicate ((rnS dr tr v).count 50) 50++[98]++List.replicate ((rnS dr tr v).count 48) 48++[99]++List.replicate ((rnS dr tr v).count 49) 49
def rnB (dr tr:AA)(v:Nat):Bool:=decide (3<=v)&&decide (v<dr.length)&&decide (v-3<tr.length)&&decide (∀t∈tr,t.length=3)&&decide ((dr.getD v []).length<=20)&&decide ((tr.getD (v-3) []).getD 0 0∈dr.getD v [])&&decide (∀w∈dr.getD v [],(2<w->w-3<tr.length)/\(sgn tr v w).isSome=true)&&decide (rnS dr tr v=[97]++List.replicate ((rnS dr tr v).count 50) 50++[98]++List.replicate ((rnS dr tr v).count 48) 48++[99]++List.replicate ((rnS dr tr v).count 49) 49)
theorem dQ2 {dr tr:AA}{v:Nat}(h:rnB dr tr v=true):Rn dr tr v:=by
 unfold rnB at h;simp only[Bc,Bj]at h;obtain⟨⟨⟨⟨⟨⟨⟨a,b⟩,c⟩,d⟩,e⟩,f⟩,g⟩,i⟩:=h;exact⟨a,b,c,d,e,f,g,i⟩
def eC5 (ds:AD)(d:PyData):Prop:=∃(dr tr:AA) (v:Nat),Rn dr tr v/\ds=[.tuple (dr.map tN),.tuple (tr.map tN),.int (v:Int)]/\d=.bool true
structure Io (dr tr:AA):Prop where
 hl:dr.length<=10
 hr:∀v,v<dr.length->3<=v->Rn dr tr v
 ho:∀v,v<dr.length->3<=v->∀i,i<3->(tr.getD (v-3) []).getD i 0<3->(tr.getD (v-3) []).getD i 0=i
def ioB (dr tr:AA):Bool:=decide (dr.length<=10)&&(List.range dr.length).all λv=>decide (v<3)||(rnB dr tr v&&(List.range 3).all λi=>decide (3<=(tr.getD (v-3) []).getD i 0)||decide ((tr.getD (v-3) []).getD i 0=i))
theorem dY6 {dr tr:AA}(h:ioB dr tr=true):Io dr tr:=by
 unfold ioB at h;rw[Bc,Bj,Ac9]at h;have y:∀v,v<dr.length->3<=v->rnB dr tr v=true/\∀i,i<3->(tr.getD (v-3) []).getD i 0<3->(tr.getD (v-3) []).getD i 0=i:=λv a b=>by
  have e:=h.2 v (Ab5.mpr a)
  rw[Dr,Bj,Bc,Ac9]at e;rcases e with e | ⟨e,r⟩
  .lia
  .refine⟨e,λi hi g=>?_⟩
   have:=r i (Ab5.mpr hi)
   rw[Dr,Bj,Bj]at this;rcases this with z | z
   .lia
   .exact z
 exact⟨h.1,λv a b=>dQ2 (y v a b).1,λv a b=>(y v a b).2⟩
def dL5 (ds:AD)(d:PyData):Prop:=∃dr tr:AA,Io dr tr/\ds=[.tuple (dr.map tN),.tuple (tr.map tN)]/\d=.bool true
theorem bO0 {L:AA}{p:Nat}{i:Int}(h:p<L.length)(hi:i=(p:Int)):atI (L.map tN) i=some (tN (L.getD p [])):=by
 subst hi;exact M3 p rfl (by rw[Aa9,Aa2 h,Ac0,Aa2 h];rfl)
theorem nAt {l:AB}{p:Nat}{i:Int}(h:p<l.length)(hi:i=(p:Int)):atI (nI l) i=some (.int ((l.getD p 0:Nat):Int)):=by
 subst hi;exact M3 p rfl (by unfold nI;rw[Aa9,Aa2 h,Ac0,Aa2 h];rfl)
theorem bF8 {tr:AA}{p:Nat}(h:p<tr.length):tr.getD p []∈tr:=by
 rw[Ac0,Aa2 h];exact Dv h
section
variable {P:Program}{w:World}{K:Frag}{mg:Str->Option Value}{base:Heap}{a:Ad}
theorem bY5 {m:Bool}{ρ:List Sl}{ta tb:TE}{l:AB}{x:Nat}(e:LV.E K false ta ρ (tN l))(y:LV.E K false tb ρ (.int (x:Int)))(z:x∈l):LV.E K m (tBM K "tuple" (λx xs H Q=>∃(p:Addr) (l:AC) (k:Int),x=.ref p/\xs=[.int k]/\SqT K H p (l.map V.int)/\k∈l/\Q (.int (l.idxOf k:Nat)) H) ta (K7 tb S8)) ρ (.int (l.idxOf x:Nat)):=by
 rw[bC6]at e;have h:=aV4 (K:=K) (m:=m) (ρ := ρ) (ta:=ta) (tb:=tb) (k:=(x:Int)) e y (Aa8.mpr ⟨x,z,rfl⟩);rw[aE4 x l]at h;exact h
theorem eF1 (T:Tx K mg a):FnOk P w K mg base CX0 1 a.aA5 a.aA4 ["_law_turns", "_law_outs", "_law_v"] (spV K eC5):=by
 refine T.aK4.ok sc__law_round (T5 λds d ⟨_,_,_,_,e,_⟩=>by rw[e];rfl) (λcdv A outer s H vs Q E hr h=>?_)
 obtain⟨ds,S,d,hS,r,⟨Y,tr,v,R,rfl,rfl⟩,q⟩:=h;refine⟨_,(A6 (C0 (i:=3) sc__law_round.nd rfl (Or.inl rfl) (B6 (ixK K) (pv 1) (B2 L4 (pv 2) A7) (λ_ _=>rfl)))
   (A6 (C0 (i:=4) sc__law_round.nd rfl (Or.inl rfl) E7)
   (A6 (C0 (i:=5) sc__law_round.nd rfl (Or.inl rfl) (J9 PySem.F.plainAttrs_tuple PySem.F.slot_tuple_index PySem.F.type_tuple_index (m9 K) (B6 (ixK K) (pv 0) (pv 2) (λ_ _=>rfl)) (A0 (B6 (ixK K) (pv 3) A7 (λ_ _=>rfl)) A4)))
   (A6 (G5 Aj rfl (aJ5 (B2 (bP2 K) (S0 (dB8 K) (B6 (ixK K) (pv 0) (pv 2) (λ_ _=>rfl)) (X5 (pv 5)) X0) (S0 (dB8 K) (B6 (ixK K) (pv 0) (pv 2) (λ_ _=>rfl)) X0 (X5 (pv 5))))) (C5 (i:=6) sc__law_round.nd rfl (Or.inl rfl)) (B0 (N5 (B9 (bH0 K hr) (pv 6) (pv 3) rfl) (B0 (C0 (i:=4) sc__law_round.nd rfl (Or.inl rfl) (B2 J6 (pv 4) (B6 (ixK K) E7 (J9 PySem.F.plainAttrs_tuple PySem.F.slot_tuple_index PySem.F.type_tuple_index (m9 K) (pv 3) (A0 (pv 6) A4)) (λ_ _=>rfl))))) (B0 (N5 (PW.pt (bU4 (B9 t5 (pv 6) A7 (C7 _)) (bH4 (B9 (bH0 K hr) (pv 2) (B6 (ixK K) (pv 1) (B2 L4 (pv 6) A7) (λ_ _=>rfl)) rfl)))) (B0 (C0 (i:=4) sc__law_round.nd rfl (Or.inl rfl) (B2 J6 (pv 4) (B6 (ixK K) E7 (J9 PySem.F.plainAttrs_tuple PySem.F.slot_tuple_index PySem.F.type_tuple_index (m9 K) (B6 (ixK K) (pv 1) (B2 L4 (pv 6) A7) (λ_ _=>rfl)) (A0 (pv 2) A4)) (λ_ _=>rfl))))) (B0 (D2 aC4)))))))
   (A6 (C0 (i:=7) sc__law_round.nd rfl (Or.inl rfl) (B2 J6 (B2 J6 (B2 J6 E7 (B2 aN0 E7 (J9 PySem.F.plainAttrs_str PySem.F.slot_str_count PySem.F.type_str_count R4 (pv 4) (A0 E7 A4)))) E7) (B2 aN0 E7 (J9 PySem.F.plainAttrs_str PySem.F.slot_str_count PySem.F.type_str_count R4 (pv 4) (A0 E7 A4)))))
   (B0 (D2 (aF1 i5 (pv 4) (B2 J6 (B2 J6 (pv 7) E7) (B2 aN0 E7 (J9 PySem.F.plainAttrs_str PySem.F.slot_str_count PySem.F.type_str_count R4 (pv 4) (A0 E7 A4)))) (C7 _))))))))),K1 hS r ?_ q⟩
 obtain⟨h3,hv,ht,h33,hl,hx,hw,heq⟩:=R;have hv3:(v:Int)-3=((v-3:Nat):Int):=by lia
 have t3:=h33 _ (bF8 ht)
 refine B4 (F8 (d:=tN (tr.getD (v-3) [])) (E4 (ds:=tr.map tN) (A1 (i:=1) rfl) (L9 (A1 (i:=2) rfl) A9) rfl (bO0 ht hv3)) ?_);refine B4 (F8 (d:=.str (tx [])) (U1 rfl) ?_);generalize hT:tr.getD (v-3) []=t at *;generalize hU:Y.getD v []=l at *;have x0:t.getD 0 0∈l:=hx;refine B4 (F8 (d:=.int (l.idxOf (t.getD 0 0):Nat)) (bY5 (l:=l) (x:=t.getD 0 0) (E4 (ds:=Y.map tN) (A1 (i:=0) rfl) (A1 (i:=2) rfl) rfl (by rw[bO0 hv rfl,hU])) (E4 (ds:=nI t) (A1 (i:=3) rfl) A9 rfl (nAt (by lia) rfl)) x0) ?_)
 have hidx:l.idxOf (t.getD 0 0)<l.length:=Ac4 x0
 generalize hI:l.idxOf (t.getD 0 0)=ix at *;have rot:dS6 l (t.getD 0 0)=l.drop ix++l.take ix:=by unfold dS6;rw[hI]
 have rS:rnS Y tr v=(l.drop ix++l.take ix).filterMap (sgn tr v):=by unfold rnS;rw[hU,hT,rot]
 have hmem:∀w∈l.drop ix++l.take ix,w∈l:=λw hw=>(Aa0.mp hw).elim Bx As
 have hrl:(l.drop ix++l.take ix).length=l.length:=by rw[Ab7,Ay,Ad1];lia
 refine B4 (N2 (aW6 (ds:=nI (l.drop ix++l.take ix)) ?_) (λi ρ=>∃x6,x6.nb=true/\ρ=[.val (.tuple (Y.map tN)),.val (.tuple (tr.map tN)),.val (.int (v:Int)),.val (tN t),.val (.str (tx (((l.drop ix++l.take ix).take i).filterMap (sgn tr v)))),.val (.int (ix:Nat)),x6,.no]) ⟨.no,rfl,rfl⟩ ?_ ?_)
 .have er:∀{mm:Bool} {ρ:List Sl},ρ[0]? = some (.val (.tuple (Y.map tN)))->ρ[2]? = some (.val (.int (v:Int)))->LV.E K mm (tOp (rIx K) (J7 0) (J7 2)) ρ (tN l):=λ{mm ρ} h0 U=>E4 (ds:=Y.map tN) (A1 (i:=0) h0) (A1 (i:=2) U) rfl (by rw[bO0 hv rfl,hU])
  have X:=cZ6 (K:=K) (m:=true) (cB3 (ds:=nI l) (er (mm:=false) (ρ:=[.val (.tuple (Y.map tN)),.val (.tuple (tr.map tN)),.val (.int (v:Int)),.val (tN t),.val (.str (tx [])),.val (.int (ix:Nat)),.no,.no]) rfl rfl) (aC0 (A1 (i:=5) rfl)) y0 (F5 l)) (cB3 (ds:=nI l) (er (mm:=false) (ρ:=[.val (.tuple (Y.map tN)),.val (.tuple (tr.map tN)),.val (.int (v:Int)),.val (tN t),.val (.str (tx [])),.val (.int (ix:Nat)),.no,.no]) rfl rfl) y0 (aC0 (A1 (i:=5) rfl)) (F5 l)) (P0 _ _ (F5 l)) (P0 _ _ (F5 l)) ?_ ?_
  .rw[u7 (by rw[C8];lia),aQ4 (by rw[C8];lia),aT8,bZ7,<- j4]at X
   exact X
  .rw[u7 (by rw[C8];lia),aT8]
   intro z
   have:=congrArg List.length z
   rw[C8,Ay]at this;simp at this
   lia
  .rw[u7 (by rw[C8];lia),aQ4 (by rw[C8];lia),Ay,Ad1,C8];unfold sizeLine;lia
 .rintro i d _ hd ⟨x6,b6,rfl⟩;obtain⟨y,B,rfl⟩:∃y:Nat,(l.drop ix++l.take ix)[i]? = some y/\d=.int (y:Int):=by
   unfold nI at hd;rw[Aa9]at hd;obtain⟨y,h1,U⟩:=Bn.mp hd;exact⟨y,h1,U.symm⟩
  have hil:=(Ab0.mp B).1
  have hwl:=hmem y (Ar B)
  obtain⟨hw3,D⟩:=hw y hwl;obtain⟨c,X⟩:=Option.isSome_iff_exists.mp D;have et:((l.drop ix++l.take ix).take (i+1)).filterMap (sgn tr v)=((l.drop ix++l.take ix).take i).filterMap (sgn tr v)++[c]:=by
   rw[Dj,B,List.filterMap_append];show _++List.filterMap (sgn tr v) [y]=_;rw[Ak,X];rfl
  have hzl:(((l.drop ix++l.take ix).take i).filterMap (sgn tr v)).length<=20:=by
   have h1:=List.length_filterMap_le (sgn tr v) ((l.drop ix++l.take ix).take i)
   rw[Ad1]at h1
   lia
  refine⟨_,D5,?_⟩;show W K _ [.val (.tuple (Y.map tN)),.val (.tuple (tr.map tN)),.val (.int (v:Int)),.val (tN t),.val (.str (tx (((l.drop ix++l.take ix).take i).filterMap (sgn tr v)))),.val (.int (ix:Nat)),.val (.int (y:Int)),.no] _;have tin:=cC0 (K:=K) (m:=false) (ρ:=[.val (.tuple (Y.map tN)),.val (.tuple (tr.map tN)),.val (.int (v:Int)),.val (tN t),.val (.str (tx (((l.drop ix++l.take ix).take i).filterMap (sgn tr v)))),.val (.int (ix:Nat)),.val (.int (y:Int)),.no]) (ds:=nI t) (d:=.int (y:Int)) (d':=tN t) (A1 (i:=6) rfl) (A1 (i:=3) rfl) rfl (aT6 _) (bW1 _);rw[cX0]at tin;have hs:sgn tr v y=if y∈t then some (97+t.idxOf y) else if 2<y/\v∈tr.getD (y-3) [] then some (48+(tr.getD (y-3) []).idxOf v) else none:=by unfold sgn;rw[hT]
  have abc:∀k:Nat,k<3->atI [97,98,99] (k:Int)=some (97+k):=by decide
  have n012:∀k:Nat,k<3->atI [48,49,50] (k:Int)=some (48+k):=by decide
  refine V4 (D1 tin) (λh=>?_) (λh=>?_)
  .have h:=Am h
   rw[hs,Ae h]at X;cases X;have N:t.idxOf y<3:=by have:=Ac4 h;lia
   exact F8 (d:=.str (tx (((l.drop ix++l.take ix).take i).filterMap (sgn tr v)++[97+t.idxOf y]))) (aC3 (A1 (i:=4) rfl) (dM1 (z:=[97,98,99]) (U1 (by decide)) (bY5 (l:=t) (x:=y) (A1 (i:=3) rfl) (A1 (i:=6) rfl) h) (by decide) (abc _ N)) (by simp;lia)) ⟨.val (.int (y:Int)),rfl,by rw[et];rfl⟩
  .have h:=Bm h
   rw[hs,Ac h]at X;by_cases U:2<y/\v∈tr.getD (y-3) []
   .rw[Ae U]at X;cases X;have J:=hw3 U.1;have N:(tr.getD (y-3) []).idxOf v<3:=by have:=Ac4 U.2;have:=h33 _ (bF8 J);lia
    have ew:∀{mm:Bool},LV.E K mm (tOp (rIx K) (J7 1) (tOp (rI0 λi j=>.int (i-j)) (J7 6) (tC (.int 3)))) [.val (.tuple (Y.map tN)),.val (.tuple (tr.map tN)),.val (.int (v:Int)),.val (tN t),.val (.str (tx (((l.drop ix++l.take ix).take i).filterMap (sgn tr v)))),.val (.int (ix:Nat)),.val (.int (y:Int)),.no] (tN (tr.getD (y-3) [])):=λ{mm}=>E4 (ds:=tr.map tN) (A1 (i:=1) rfl) (L9 (A1 (i:=6) rfl) A9) rfl (bO0 J (by lia))
    have M:=cC0 (K:=K) (m:=false) (ρ:=[.val (.tuple (Y.map tN)),.val (.tuple (tr.map tN)),.val (.int (v:Int)),.val (tN t),.val (.str (tx (((l.drop ix++l.take ix).take i).filterMap (sgn tr v)))),.val (.int (ix:Nat)),.val (.int (y:Int)),.no]) (ds:=nI (tr.getD (y-3) [])) (d:=.int (v:Int)) (d':=tN (tr.getD (y-3) [])) (A1 (i:=2) rfl) ew rfl (aT6 _) (bW1 _)
    rw[cX0]at M;refine V4 (cS0 (D1 (U7 (g:=λi j=>decide (i>j)) (A1 (i:=6) rfl) A9)) λ_=>D1 M) (λ_=>?_) (λhf=>?_)
    .exact F8 (d:=.str (tx (((l.drop ix++l.take ix).take i).filterMap (sgn tr v)++[48+(tr.getD (y-3) []).idxOf v]))) (aC3 (A1 (i:=4) rfl) (dM1 (z:=[48,49,50]) (U1 (by decide)) (bY5 (l:=tr.getD (y-3) []) (x:=v) ew (A1 (i:=2) rfl) U.2) (by decide) (n012 _ N)) (by simp;lia)) ⟨.val (.int (y:Int)),rfl,by rw[et];rfl⟩
    .rw[show decide ((y:Int)>2)=true from Bu (by lia),show decide (v∈tr.getD (y-3) [])=true from Bu U.2]at hf
     cases hf
   .rw[Ac U]at X;cases X
 .rintro _ ⟨x6,b6,rfl⟩;rw[C8,Cg,<- rS];have hzl:(rnS Y tr v).length<=20:=by
   rw[rS];have h1:=List.length_filterMap_le (sgn tr v) (l.drop ix++l.take ix)
   lia
  generalize rnS Y tr v=z at *;have cz:∀{ρ:List Sl} (c:Nat),ρ[4]? = some (.val (.str (tx z)))->∀{x:Str},x=tx [c]->LV.E K false (tBM K "str" aO1 (J7 4) (K7 (tC (.str x)) S8)) ρ (.int (z.count c:Nat)):=λ{ρ} c h4 {x} hx=>bG4 (l:=z) (c:=c) (A1 (i:=4) h4) (U1 hx)
  have lc:∀c,z.count c<=20:=λc=>Bf List.count_le_length hzl
  have ml:∀{ρ:List Sl} {mm:Bool} (c:Nat),ρ[4]? = some (.val (.str (tx z)))->∀{x:Str},x=tx [c]->LV.E K mm (tOp cA1 (tC (.str x)) (tBM K "str" aO1 (J7 4) (K7 (tC (.str x)) S8))) ρ (.str (tx (List.replicate (z.count c) c))):=λ{ρ mm} c h4 {x} hx=>by
   have h:=dU0 (K:=K) (m:=mm) (ρ := ρ) (c:=c) (n:=((z.count c:Nat):Int)) (U1 hx) (cz c h4 hx) (by have:=lc c;lia)
   rw[Ac8]at h;exact h
  have c0:=lc 48
  have c1:=lc 49
  have c2:=lc 50
  refine B4 (F8 (d:=.str (tx ([97]++List.replicate (z.count 50) 50++[98]++List.replicate (z.count 48) 48))) (aC3 (aC3 (aC3 (a:=[97]) (U1 (by decide)) (ml 50 rfl (by decide)) (by simp;lia)) (b:=[98]) (U1 (by decide)) (by simp;lia)) (ml 48 rfl (by decide)) (by simp;lia)) ?_)
  have fin:=bN6 (K:=K) (m:=true) (ρ:=[.val (.tuple (Y.map tN)),.val (.tuple (tr.map tN)),.val (.int (v:Int)),.val (tN t),.val (.str (tx z)),.val (.int (ix:Nat)),x6,.val (.str (tx ([97]++List.replicate (z.count 50) 50++[98]++List.replicate (z.count 48) 48)))]) (i:=tx z) (j:=tx ([97]++List.replicate (z.count 50) 50++[98]++List.replicate (z.count 48) 48++[99]++List.replicate (z.count 49) 49)) (A1 (i:=4) rfl) (aC3 (aC3 (b:=[99]) (A1 (i:=7) rfl) (U1 (x:=Str.ofString "c") (by decide)) (by simp;lia)) (ml 49 rfl (x:=Str.ofString "1") (by decide)) (by simp;lia))
  exact M8 fin (by rw[<- heq];simp)
theorem eI7 (T:Tx K mg a):FnOk P w K mg base CX0 2 a.Y8 a.Z5 ["_law_turns", "_law_outs"] (spV K dL5):=by
 have y:FnOk P w K mg base CX0 1 _ _ _ _:=eF1 T
 refine T.aE0.ok sc__law_is_outs (T5 λds d ⟨_,_,_,e,_⟩=>by rw[e];rfl) (λcdv A F s H vs Q E hr h=>?_)
 obtain⟨ds,S,d,hS,r,⟨m,tr,R,rfl,rfl⟩,q⟩:=h;refine⟨_,(A6 (G5 Aj rfl (cM0 rfl T.J0 (A0 A7 (A0 (B8 (T9 K) (by rfl) T.F9 Ah (A0 (pv 0) A4)) A4))) (C5 (i:=2) sc__law_is_outs.nd rfl (Or.inl rfl)) (A6 (G5 Aj rfl (G8 rfl T.J0 (A0 A7 A4)) (C5 (i:=3) sc__law_is_outs.nd rfl (Or.inl rfl)) (B0 (N5 (PW.pt (bU4 (B9 aH2 (B6 (ixK K) (B6 (ixK K) (pv 1) (B2 L4 (pv 2) A7) (λ_ _=>rfl)) (pv 3) (λ_ _=>rfl)) A7 (C7 _)) (bH4 (B9 aH0 (B6 (ixK K) (B6 (ixK K) (pv 1) (B2 L4 (pv 2) A7) (λ_ _=>rfl)) (pv 3) (λ_ _=>rfl)) (pv 3) (C7 _))))) (B0 (D2 aC4)) H9)))
   (B0 (N5 (aH7 (aJ2 (C6 y (hr.mono (by decide)) rfl T.bM5 T.aK4.kp T.bJ3 .nil E2 (A0 (pv 0) (A0 (pv 1) (A0 (pv 2) A4)))))) (B0 (D2 aC4)) H9))))
   (B0 (D2 aC4))),K1 hS r ?_ q⟩
 obtain⟨hl,N,ho⟩:=R;have el:∀{Y:Bool} {ρ:List Sl},ρ[0]? = some (.val (.tuple (m.map tN)))->LV.E K Y (tCB (λxs H Q=>∃p B,xs=[.ref p]/\(SqL K H p B\/SqT K H p B)/\Q (.int B.length) H) (K7 (J7 0) S8)) ρ (.int (m.length:Int)):=λ{Y ρ} h0=>EI.to (O7 (d:=.tuple (m.map tN)) (ds:=m.map tN) (A5 (A1 (i:=0) h0) B1)) (by rw[Aa3])
 refine B4 (N2 (dV2 (A5 A9 (A5 (el rfl) B1)) (by lia)) (λi ρ=>∃X z,X.nb=true/\z.nb=true/\ρ=[.val (.tuple (m.map tN)),.val (.tuple (tr.map tN)),X,z]) ⟨.no,.no,rfl,rfl,rfl⟩ ?_ ?_)
 .rintro i d _ hd ⟨X,z,b2,b3,rfl⟩;obtain⟨v,hv,h3,rfl⟩:∃v:Nat,v<m.length/\3<=v/\d=.int (v:Int):=by
   unfold P6 at hd;have hn:=(Ab0.mp hd).1;rw[Aa3,Bo]at hn;rw[Aa9,List.getElem?_range hn]at hd;refine⟨3+i,by lia,by lia,?_⟩
   have:=(Ab4 hd).symm
   rw[this]
   congr 1
  have R:=N v hv h3
  have D:(v:Int)-3=((v-3:Nat):Int):=by lia
  have t3:=R.h33 _ (bF8 R.ht)
  refine⟨_,D5,?_⟩;refine B4 (N2 (Q4 (A5 A9 B1) (by decide) (by decide)) (λk ρ=>∃z,z.nb=true/\ρ=[.val (.tuple (m.map tN)),.val (.tuple (tr.map tN)),.val (.int (v:Int)),z]) ⟨z,b3,rfl⟩ ?_ ?_)
  .rintro k d _ hk ⟨z,b3,rfl⟩;obtain⟨rfl,U⟩:=Q6 hk;have J:k<3:=by simpa using U
   refine⟨_,D5,?_⟩;have M:=ho v hv h3 k J;have ev:∀{Y:Bool},LV.E K Y (tOp (rIx K) (tOp (rIx K) (J7 1) (tOp (rI0 λi j=>.int (i-j)) (J7 2) (tC (.int 3)))) (J7 3)) [.val (.tuple (m.map tN)),.val (.tuple (tr.map tN)),.val (.int (v:Int)),.val (.int (k:Int))] (.int (((tr.getD (v-3) []).getD k 0:Nat):Int)):=λ{Y}=>E4 (ds:=nI (tr.getD (v-3) [])) (E4 (ds:=tr.map tN) (A1 (i:=1) rfl) (L9 (A1 (i:=2) rfl) A9) rfl (bO0 R.ht D)) (A1 (i:=3) rfl) rfl (nAt (by lia) rfl)
   refine V4 (cS0 (D1 (U7 (g:=λi j=>decide (i<j)) ev A9)) λ_=>D1 (aH6 ev (A1 (i:=3) rfl))) (λh=>?_) (λ_=>M2 ⟨.val (.int (k:Int)),rfl,rfl⟩)
   rw[Bc,Bj,Bool.not_eq_true',decide_eq_false_iff_not]at h;exact absurd (by rw[M (by lia)]) h.2
  .rintro _ ⟨z,b3,rfl⟩;exact V4 (b := !true) (aZ3 (t_b (E6 (A5 (A1 (i:=0) rfl) (A5 (A1 (i:=1) rfl) (A5 (A1 (i:=2) rfl) B1))) ⟨m,tr,v,R,rfl,rfl⟩))) (λh=>by cases h) (λ_=>M2 ⟨.val (.int (v:Int)),z,rfl,b3,rfl⟩)
 .rintro _ ⟨X,z,b2,b3,rfl⟩;exact M8 eK4 rfl
end
set_option maxHeartbeats 1000000
def fF (w:List Bool)(j:Nat):Nat:=(ahd 0 w).getD j 0
def drL (F G:Nat->Nat)(m:Nat):AA:=((List.range (m+3)).map ((TT.gst F G m).row)).map TT.G4
def trL (F G:Nat->Nat)(m:Nat):AA:=(List.range m).map (o7 F G m)
def cK4 (F G:Nat->Nat)(m:Nat):Bool:=(List.range m).all λi=>decide (TT.pv F i<=F i)&&decide (F i<=i)&&decide (TT.pv G i<=G i)&&decide (G i<=F i)
theorem dJ4 {F G:Nat->Nat}{m:Nat}(h:cK4 F G m=true):TT.Rws F G m:=by
 unfold cK4 at h;rw[Ac9]at h;have k:∀i,i<m->TT.pv F i<=F i/\F i<=i/\TT.pv G i<=G i/\G i<=F i:=λi hi=>by
  have:=h i (Ab5.mpr hi)
  simp only[Bc,Bj]at this;exact⟨this.1.1.1,this.1.1.2,this.1.2,this.2⟩
 exact⟨λi hi=>(k i hi).1,λi hi=>(k i hi).2.1,λi hi=>(k i hi).2.2.1,λi hi=>(k i hi).2.2.2⟩
def chk (m:Nat)(x:List Bool×List Bool):Bool:=decide (TT.D3 (fF x.1) m=x.1)&&decide (TT.D3 (fF x.2) m=x.2)&&cK4 (fF x.1) (fF x.2) m&&ioB (drL (fF x.1) (fF x.2) m) (trL (fF x.1) (fF x.2) m)
theorem dF8:∀m,m<5->∀x∈lpP m,chk m x=true:=by decide +kernel
theorem dR3:∀m,m<5->((lpP m).map λx=>trL (fF x.1) (fF x.2) m).Nodup:=by decide +kernel
set_option maxHeartbeats 1000000
theorem aR4 {F F' G G':Nat->Nat}:∀{m:Nat},(∀j,j<m->F j=F' j/\G j=G' j)->TT.gst F G m=TT.gst F' G' m
 | 0,_=>rfl
 | m+1,h=>by
  have y:=aR4 (m:=m) λj z=>h j (by lia)
  have e:=h m (Nat.lt_succ_self m)
  have hp:TT.pv F m=TT.pv F' m/\TT.pv G m=TT.pv G' m:=by
   cases m with
   | zero=>exact⟨rfl,rfl⟩
   | succ k=>exact h k (by lia)
  show(TT.gst F G m).step (F m-TT.pv F m) (G m-TT.pv G m)=(TT.gst F' G' m).step (F' m-TT.pv F' m) (G' m-TT.pv G' m)
  rw[y,e.1,e.2,hp.1,hp.2]
theorem bD4 {F F':Nat->Nat}:∀{m:Nat},(∀j,j<m->F j=F' j)->TT.wrd F m=TT.wrd F' m
 | 0,_=>rfl
 | m+1,h=>by
  have e:=bD4 (m:=m) λj y=>h j (by lia)
  have hp:TT.pv F m=TT.pv F' m:=by
   cases m with
   | zero=>rfl
   | succ k=>exact h k (by lia)
  show TT.wrd F m++TT.ds (F m-TT.pv F m)++[true]=TT.wrd F' m++TT.ds (F' m-TT.pv F' m)++[true]
  rw[e,hp,h m (Nat.lt_succ_self m)]
theorem aW8 {F F':Nat->Nat}{m:Nat}(h:∀j,j<m->F j=F' j):TT.D3 F m=TT.D3 F' m:=by
 unfold TT.D3;have hp:TT.pv F m=TT.pv F' m:=by
  cases m with
  | zero=>rfl
  | succ k=>exact h k (by lia)
 rw[bD4 h,hp]
theorem cJ0 {F F' G G':Nat->Nat}{m:Nat}(h:∀j,j<m->F j=F' j/\G j=G' j):drL F G m=drL F' G' m:=by unfold drL;rw[aR4 h]
theorem cI0 {F F' G G':Nat->Nat}{m:Nat}(h:∀j,j<m->F j=F' j/\G j=G' j):trL F G m=trL F' G' m:=by
 unfold trL;refine Ax λj _=>?_
 unfold o7;rw[aR4 h]
def FL (l:AB)(j:Nat):Nat:=l.getD j 0
theorem dM6 (F:Nat->Nat)(m:Nat):∀j,j<m->F j=FL ((List.range m).map F) j:=λj e=>by
 unfold FL;rw[Ac0,Aa9,List.getElem?_range e];rfl
def al:Nat->AA
 | 0=>[[]]
 | k+1=>(al k).flatMap λl=>(List.range (k+1)).map λa=>l++[a]
theorem bX1 (F:Nat->Nat):∀m,(∀j,j<m->F j<=j)->(List.range m).map F∈al m
 | 0,_=>by simp[al]
 | m+1,h=>by
  have e:=bX1 F m λj y=>h j (by lia)
  show _∈(al m).flatMap _
  refine List.mem_flatMap.mpr ⟨_,e,Aa8.mpr ⟨F m,Ab5.mpr (by have:=h m (Nat.lt_succ_self m);lia),?_⟩⟩
  rw[Bd,Ad2];rfl
theorem dC1:∀m,m<5->∀l∈al m,∀k∈al m,cK4 (FL l) (FL k) m=true->(TT.D3 (FL l) m,TT.D3 (FL k) m)∈lpP m:=by decide +kernel
theorem eA7 {F G:Nat->Nat}{m:Nat}(R:TT.Rws F G m):cK4 F G m=true:=by
 unfold cK4;rw[Ac9];intro i hi;have hi:=Ab5.mp hi;simp only[Bc,Bj];exact⟨⟨⟨R.f1 i hi,R.f2 i hi⟩,R.g1 i hi⟩,R.g2 i hi⟩
theorem cL4 {F F' G G':Nat->Nat}{m:Nat}(h:∀j,j<m->F j=F' j/\G j=G' j)(R:TT.Rws F G m):TT.Rws F' G' m:=by
 have hp:∀i,i<m->TT.pv F i=TT.pv F' i/\TT.pv G i=TT.pv G' i:=λi hi=>by
  cases i with
  | zero=>exact⟨rfl,rfl⟩
  | succ k=>exact h k (by lia)
 exact⟨λi hi=>by rw[<- (hp i hi).1,<- (h i hi).1];exact R.f1 i hi,λi hi=>by rw[<- (h i hi).1];exact R.f2 i hi,λi hi=>by rw[<- (hp i hi).2,<- (h i hi).2];exact R.g1 i hi,λi hi=>by rw[<- (h i hi).1,<- (h i hi).2];exact R.g2 i hi⟩
theorem bZ9 {F G:Nat->Nat}{m:Nat}(r:m<5)(R:TT.Rws F G m):(TT.D3 F m,TT.D3 G m)∈lpP m:=by
 have y:=dM6 F m
 have z:=dM6 G m
 rw[aW8 y,aW8 z];exact dC1 m r _ (bX1 F m R.f2) _ (bX1 G m λj e=>Bf (R.g2 j e) (R.f2 j e)) (eA7 (cL4 (λj e=>⟨y j e,z j e⟩) R))
theorem cT8 {F:Nat->Nat}{m:Nat}(h:∀j,j<m->TT.pv F j<=F j/\F j<=j):∀j,j<m->fF (TT.D3 F m) j=F j:=λj e=>by
 unfold fF;rw[bF9 h,Ac0,Aa9,List.getElem?_range e];rfl
def fdD (m:Nat)(x:List Bool×List Bool):PyData:=.tuple [.tuple ((drL (fF x.1) (fF x.2) m).map tN),.tuple ((trL (fF x.1) (fF x.2) m).map tN)]
theorem dF6 {F G:Nat->Nat}{m:Nat}(R:TT.Rws F G m):.tuple [eB2 F G m,bV9 F G m]=fdD m (TT.D3 F m,TT.D3 G m):=by
 have h:∀j,j<m->F j=fF (TT.D3 F m) j/\G j=fF (TT.D3 G m) j:=λj e=>⟨(cT8 (λj e=>⟨R.f1 j e,R.f2 j e⟩) j e).symm,(cT8 (λj e=>⟨R.g1 j e,Bf (R.g2 j e) (R.f2 j e)⟩) j e).symm⟩
 unfold fdD;rw[<- cJ0 h,<- cI0 h];rfl
structure Ck (m:Nat)(x:List Bool×List Bool):Prop where
 r1:TT.D3 (fF x.1) m=x.1
 r2:TT.D3 (fF x.2) m=x.2
 rw:TT.Rws (fF x.1) (fF x.2) m
 io:Io (drL (fF x.1) (fF x.2) m) (trL (fF x.1) (fF x.2) m)
theorem eI1 {m:Nat}{x:List Bool×List Bool}(e:m<5)(y:x∈lpP m):Ck m x:=by
 have h:=dF8 m e x y
 unfold chk at h;simp only[Bc,Bj]at h;exact⟨h.1.1.1,h.1.1.2,dJ4 h.1.2,dY6 h.2⟩
set_option maxHeartbeats 1000000
theorem sc_law:D4 ["_law_script", "_law_number", "_law_m", "_law_first", "_law_second", "_law_one", "_law_met", "_law_pair", "_law_found"] ["_law_script"] (C3 cM7):=⟨rfl,rfl,rfl,by decide +kernel,rfl,by decide +kernel,by decide +kernel⟩
def cB4 (K:Frag):Sp:=λvs H Q _=>∃(a:Addr) (ns:AC),vs=[.ref a]/\SqL K H a (ns.map V.int)/\ns.length<=63/\∀H',Q (.bl true) H'
def bO3 (xs:AC)(lo hi:Option Int):AC:=List.take (HT.sIx xs.length xs.length hi-HT.sIx xs.length 0 lo) (List.drop (HT.sIx xs.length 0 lo) xs)
theorem eD7 (xs:AC)(lo hi:Option Int):LV.aI1 (xs.map PyData.int) lo hi=(bO3 xs lo hi).map PyData.int:=by
 unfold LV.aI1 bO3;rw[Aa3,List.map_take,List.map_drop]
theorem aC7 {m v:Nat}(e:v<m+3):(List.range (m+3)).getD v 0=v:=by rw[Ac0,List.getElem?_range e];rfl
theorem dO2 (m:Nat):TT.Nm (m+3) λv=>(List.range (m+3)).getD v 0:=
 ⟨λv e=>by show(List.range (m+3)).getD v 0<_;rw[aC7 e];exact e,λv w e y h=>by
  have h:(List.range (m+3)).getD v 0=(List.range (m+3)).getD w 0:=h
  rwa [aC7 e,aC7 y]at h,aC7 (by lia),aC7 (by lia),aC7 (by lia)⟩
theorem eI9 {F G:Nat->Nat}{m:Nat}{d t:AA}(B:TT.Bt F G m (λv=>(List.range (m+3)).getD v 0) d t):d=drL F G m/\t=trL F G m:=by
 have I:=TT.E1 B.R m (Aa7 _)
 have lt:∀v x,x∈(TT.gst F G m).row v->x<m+3:=λv x z=>by have:=I.inv.lt v x z;rw[I.k]at this;exact this
 have r:d=((List.range (m+3)).map ((TT.gst F G m).row)).map TT.G4:=by
  refine List.ext_getElem? λv=>?_
  by_cases y:v<m+3
  .have h:=B.dr v y
   rw[aC7 y]at h;rw[h,Aa9,Aa9,List.getElem?_range y];show some (TT.G4 _)=some (TT.G4 _);rw[show((TT.gst F G m).row v).map (λv=>(List.range (m+3)).getD v 0)=(TT.gst F G m).row v from(Ax λx z=>aC7 (lt v x z)).trans (List.map_id' _)]
  .rw[Ad6 (by rw[B.dl];lia),Ad6 (by simp;lia)]
 have g:t=(List.range m).map (o7 F G m):=by
  refine List.ext_getElem? λj=>?_
  by_cases Y:j<m
  .have h:=B.tr (j+3) (by lia) (by lia)
   have e:=TT.M7 (s:=TT.gst F G m) (q:=j+3) (by lia) (by rw[I.k];lia)
   have X:=lt (j+3) ((TT.gst F G m).o0 (j+3)) (by rw[e];simp)
   have U:=lt (j+3) ((TT.gst F G m).o1 (j+3)) (by rw[e];simp)
   have J:=lt (j+3) ((TT.gst F G m).o2 (j+3)) (by rw[e];simp)
   rw[aC7 (by lia),aC7 X,aC7 U,aC7 J,show j+3-3=j by lia]at h
   rw[h,Aa9,List.getElem?_range Y];rfl
  .rw[Ad6 (by rw[B.tl];lia),Ad6 (by simp;lia)]
 exact⟨r,g⟩
theorem dX9 (a b:AB):PyData.eqv (tN a) (tN b)=decide (a=b):=by
 rw[bT5,bT5,dS3];exact Cz.mpr ⟨λh=>dS9 h,λh=>by rw[h]⟩
theorem eH3 (L M:AA):PyData.eqvAll (L.map tN) (M.map tN)=decide (L=M):=aJ8 (f:=tN) dX9 L M
theorem dT8 {m:Nat}(J:m<5){x y:List Bool×List Bool}(N:x∈lpP m)(R:y∈lpP m):PyData.eqv (fdD m x) (fdD m y)=decide (x=y):=by
 unfold fdD;by_cases h:x=y
 .subst h
  simp[PyData.eqv,PyData.eqvAll,eH3]
 .have M:trL (fF x.1) (fF x.2) m≠trL (fF y.1) (fF y.2) m:=λe=>h (by
   have Q:=dR3 m J
   obtain⟨i,hi,k⟩:=List.mem_iff_getElem.mp N;obtain⟨j,U,s⟩:=List.mem_iff_getElem.mp R;have r:i=j:=by
    have h1:i<((lpP m).map λx=>trL (fF x.1) (fF x.2) m).length:=by rw[Aa3];exact hi
    have Y:j<((lpP m).map λx=>trL (fF x.1) (fF x.2) m).length:=by rw[Aa3];exact U
    have g:((lpP m).map λx=>trL (fF x.1) (fF x.2) m)[i]=((lpP m).map λx=>trL (fF x.1) (fF x.2) m)[j]:=by rw[List.getElem_map,List.getElem_map,k,s];exact e
    have X:=List.pairwise_iff_getElem.mp Q
    rcases Nat.lt_trichotomy i j with z | z | z
    .exact absurd g (X i j h1 Y z)
    .exact z
    .exact absurd g.symm (X j i Y h1 z)
   subst r;rw[<- k,<- s])
  simp[PyData.eqv,PyData.eqvAll,eH3,M,h]
theorem dB4 {m:Nat}(g:m<5){L:List (List Bool×List Bool)}(e:∀y∈L,y∈lpP m){x:List Bool×List Bool}(k:x∈lpP m):((L.map (fdD m)).any λz=>PyData.eqv z (fdD m x))=decide (x∈L):=by
 induction L with
 | nil=>rfl
 | cons y L Y=>
  rw[Ac7,List.any_cons,Y λz s=>e z (Ad4 _ s),dT8 g (e y Az) k]
  by_cases h:y=x
  .subst h;simp
  .have r:¬x=y:=λz=>h z.symm
   simp[h,r]
theorem cH1 (m:Nat)(x:List Bool×List Bool):FitN 3 (fdD m x):=aM4 (n:=2) λd hd=>by
 have e:∀L:AA,FitN 2 (.tuple (L.map tN)):=λL=>aM4 (n:=1) λd hd=>by obtain⟨l,_,rfl⟩:=Aa8.mp hd;rw[bC6];exact cY1 _
 rcases Aa1.mp hd with rfl | hd
 .exact e _
 .rw[Ad8.mp hd];exact e _
theorem dA4 (m:Nat)(x:List Bool×List Bool):Fit (fdD m x):=(cH1 m x).fit
theorem cD8 (m:Nat)(L:List (List Bool×List Bool)):Fit (.list (L.map (fdD m))):=(bQ2 (n:=3) λd e=>by obtain⟨l,_,rfl⟩:=Aa8.mp e;exact cH1 m l).fit
theorem cT4 (x:List Bool×List Bool):Fit (xD x):=cB0 x.1 x.2
theorem eE9:∀m,m<5->(lpP m).Nodup:=by decide +kernel
section
variable {P:Program}{w:World}{K:Frag}{mg:Str->Option Value}{base:Heap}{a:Ad}
theorem dS7 (T:Tx K mg a):FnOk P w K mg base CX0 12 a.bR0 a.bD8 ["_law_script"] (cB4 K):=by
 have G__law_mixed:FnOk P w K mg base CX0 1 _ _ _ _:=bT4 T
 have k:FnOk P w K mg base CX0 1 _ _ _ _:=cD5 T
 have N:FnOk P w K mg base CX0 2 _ _ _ _:=cJ6 T
 have D:FnOk P w K mg base CX0 1 _ _ _ _:=cP5 T
 have M:FnOk P w K mg base CX0 2 _ _ _ _:=cK6 T
 have G_all_pairs:FnOk P w K mg base CX0 3 _ _ _ _:=eH5 T
 have G_of_rows:FnOk P w K mg base CX0 4 _ _ _ _:=eE8 T
 have Y:FnOk P w K mg base CX0 2 _ _ _ _:=eD1 T
 have J:FnOk P w K mg base CX0 2 _ _ _ _:=eI7 T
 have G_rows_of:FnOk P w K mg base CX0 11 _ _ _ _:=bU8 T
 have G_many_pairs:FnOk P w K mg base CX0 2 _ _ _ _:=eE4 T
 refine T.eB8.ok sc_law (λvs H Q E ⟨_,_,e,_⟩=>by rw[e];rfl) (λcdv A outer s H vs Q E hr h=>?_)
 obtain⟨ad,U,rfl,hS,hl,q⟩:=h;have r:Reps K (hid (λ_=>False) H) [V.ref ad] [lI U]:=by rw[cP1];exact .cons (.lst hS (r9 U)) .nil
 refine⟨_,(A6 (C0 (i:=1) sc_law.nd rfl (Or.inl rfl) (C6 G__law_mixed (hr.mono (by decide)) rfl T.aN2 T.aA9.kp T.aO3 .nil E2 (A0 (C6 k (hr.mono (by decide)) rfl T.Y1 T.S7.kp T.Y3 .nil E2 (A0 (pv 0) (A0 A7 A4))) (A0 A7 A4))))
   (A6 (C0 (i:=2) sc_law.nd rfl (Or.inl rfl) (B2 W6 (B2 aL0 (pv 1) A7) A7))
   (A6 (N5 (B9 i5 (B2 W6 (pv 1) A7) A7 (C7 _)) (B0 (C0 (i:=2) sc_law.nd rfl (Or.inl rfl) A7)) H9)
   (A6 (aX1 (C6 N (hr.mono (by decide)) rfl T.bB5 T.aG9.kp T.bA9 .nil E2 (A0 (C6 k (hr.mono (by decide)) rfl T.Y1 T.S7.kp T.Y3 .nil E2 (A0 (pv 0) (A0 A7 A4))) (A0 (S0 (eK8 K) (pv 0) (X5 A7) X0) (A0 (pv 2) A4)))) (aR5 (n:=2) rfl (O2 (C5 (i:=3) sc_law.nd rfl (Or.inl rfl)) (O2 (C5 (i:=4) sc_law.nd rfl (Or.inl rfl)) aF7))))
   (A6 (C0 (i:=5) sc_law.nd rfl (Or.inl rfl) (C6 M (hr.mono (by decide)) rfl T.bB6 T.aG6.kp T.bB3 .nil E2 (A0 (C6 D (hr.mono (by decide)) rfl T.bI4 T.aM1.kp T.bG9 .nil E2 (A0 (pv 3) (A0 (pv 4) A4))) (A0 (K3 (aG5 rfl) (by rfl) T.aD8 boot_list (A0 (dI8 rfl T.J0 (A0 (B2 G0 (pv 2) A7) A4)) A4)) A4))))
   (A6 (C0 (i:=6) sc_law.nd rfl (Or.inl rfl) (C9 A4))
   (A6 (G5 Aj rfl (P3 (C6 G_all_pairs (hr.mono (by decide)) rfl T.bP4 T.aS1.kp T.bO6 .nil E2 (A0 (pv 2) A4))) (C5 (i:=7) sc_law.nd rfl (Or.inl rfl)) (A6 (C0 (i:=8) sc_law.nd rfl (Or.inl rfl) (C6 G_of_rows (hr.mono (by decide)) rfl T.cL3 T.bC4.kp T.cH4 .nil E2 (A0 (B6 (ixK K) (pv 7) A7 (λ_ _=>rfl)) (A0 (B6 (ixK K) (pv 7) A7 (λ_ _=>rfl)) A4))))
   (A6 (N5 (PW.pt (T2 (aH7 (aJ2 (B8 (cQ2 K) (by rfl) T.N7 boot_isinstance (A0 (pv 8) (A0 (bR1 rfl T.P1 boot_tuple) A4))))) (T2 (B9 aH0 (B8 (T9 K) (by rfl) T.F9 Ah (A0 (pv 8) A4)) A7 (C7 _)) (v5 (B9 (bH0 K hr) (pv 8) (pv 6) rfl))))) (B0 (D2 aC4)) H9)
   (A6 (N5 (PW.pt (T2 (aH7 (aJ2 (C6 Y (hr.mono (by decide)) rfl T.aN5 T.a6.kp T.aN6 .nil E2 (A0 (B6 (ixK K) (pv 8) A7 (λ_ _=>rfl)) A4)))) (T2 (B9 aH0 (B8 (T9 K) (by rfl) T.F9 Ah (A0 (B6 (ixK K) (pv 8) A7 (λ_ _=>rfl)) A4)) (B2 G0 (pv 2) A7) (C7 _)) (v5 (B9 aH0 (B8 (T9 K) (by rfl) T.F9 Ah (A0 (B6 (ixK K) (pv 8) A7 (λ_ _=>rfl)) A4)) (pv 2) (C7 _)))))) (B0 (D2 aC4)) H9)
   (A6 (N5 (PW.pt (T2 (aH7 (aJ2 (C6 J (hr.mono (by decide)) rfl T.aX9 T.aE0.kp T.aY7 .nil E2 (A0 (B6 (ixK K) (pv 8) A7 (λ_ _=>rfl)) (A0 (B6 (ixK K) (pv 8) A7 (λ_ _=>rfl)) A4))))) (v5 (B9 (dR7 K hr) (C6 G_rows_of (hr.mono (by decide)) rfl T.cH5 T.bE1.kp T.cL8 .nil E2 (A0 (B6 (ixK K) (pv 8) A7 (λ_ _=>rfl)) (A0 (B6 (ixK K) (pv 8) A7 (λ_ _=>rfl)) A4))) (pv 7) (C7 _))))) (B0 (D2 aC4)) H9)
   (B0 (E8 (J9 Ab1 Ag Af D9 (pv 6) (A0 (pv 8) A4)))))))))
   (B0 (D2 (cQ5 (aF1 (bH0 K hr) (pv 5) (pv 6) rfl) (cW3 (aF1 i5 (B8 (T9 K) (by rfl) T.F9 Ah (A0 (pv 6) A4)) (C6 G_many_pairs (hr.mono (by decide)) rfl T.bG3 T.aM7.kp T.bM4 .nil E2 (A0 (pv 2) A4)) (C7 _))))))))))))),K1 (d:=.bool true) (by intro b hb;exact hb.elim) r ?_ (by intro v H' _ rv;cases rv;exact q H')⟩
 obtain⟨nb,hnb⟩:∃nb:Int,mx (cl U 0) 1=nb:=⟨_,rfl⟩;refine B4 (F8 (d:=.int nb) (EI.to (E6 (A5 (E6 (A5 (A1 (i:=0) rfl) (A5 A9 B1)) ⟨U,0,by lia,rfl,rfl⟩) (A5 A9 B1)) ⟨_,1,by lia,rfl,rfl⟩) hnb) ?_)
 obtain⟨m0,hm0,hm04⟩:∃m:Nat,nb / 8 % 4=(m:Int)/\m<4:=⟨(nb / 8 % 4).toNat,by lia,by lia⟩
 refine B4 (F8 (d:=.int (m0:Int)) (EI.to (e_i (e_i (A1 (i:=1) rfl) A9 ⟨by decide,by decide⟩) A9 (by decide)) hm0) ?_)
 refine B4 (eF5 (λρ=>∃m:Nat,m<5/\ρ=[.val (lI U),.val (.int nb),.val (.int (m:Int)),.no,.no,.no,.no,.no,.no]) (D1 (aD5 (e_i (A1 (i:=1) rfl) A9 (by decide)) A9)) (λ_=>F8 (d:=.int ((4:Nat):Int)) A9 ⟨4,by lia,rfl⟩) (λ_=>M2 ⟨m0,by lia,rfl⟩) ?_)
 rintro _ ⟨m,hm,rfl⟩;have R:=TT.dE6 (nu (cl U 1) (bO3 U (some 2) none)) m;refine B4 (dO4 (m:=true) (d:=.tuple [lI (fl (TT.rF (nu (cl U 1) (bO3 U (some 2) none))) m),lI (fl (TT.rG (nu (cl U 1) (bO3 U (some 2) none))) m)]) (E6 (A5 (E6 (A5 (A1 (i:=0) rfl) (A5 A9 B1)) ⟨U,1,by lia,rfl,rfl⟩) (A5 (EF.e' (cE8 (ds:=U.map PyData.int) (A1 (i:=0) rfl) (aC0 A9) y0 (bF0 U))) (A5 (A1 (i:=2) rfl) B1))) ⟨cl U 1,bO3 U (some 2) none,m,by lia,by rw[eD7],rfl⟩) (bD3 (Q2 D5 (Q2 D5 aP7))) ?_)
 generalize TT.rF (nu (cl U 1) (bO3 U (some 2) none))=F at *;generalize TT.rG (nu (cl U 1) (bO3 U (some 2) none))=G at *;obtain⟨dp,tp,B⟩:=dN4 R (dO2 m);obtain⟨ed,et⟩:=eI9 B;have el:P6 0 ((m:Int)+3).toNat=nI (List.range (m+3)):=by
  rw[show((m:Int)+3).toNat=m+3 by lia]
  unfold P6 nI
  simp
 have e1:PyData.tuple [.tuple (dp.map tN),.tuple (tp.map tN)]=fdD m (TT.D3 F m,TT.D3 G m):=by rw[ed,et,<- dF6 R];rfl
 refine B4 (F8 (d:=fdD m (TT.D3 F m,TT.D3 G m)) (by rw[<- e1];exact E6 (A5 (E6 (A5 (A1 (i:=3) rfl) (A5 (A1 (i:=4) rfl) B1)) ⟨F,G,m,R,by lia,rfl,rfl⟩) (A5 (EF.e' (EF.to (dJ7 (A5 (L9 (A1 (i:=2) rfl) A9) B1) (by lia)) el)) B1)) ⟨F,G,m,List.range (m+3),dp,tp,by lia,Bo,B,rfl,rfl⟩) ?_)
 refine B4 (K2 (ds:=[]) (J8 B1) ?_ (show 6<9 by decide))
 obtain⟨ll,lp0,lp1⟩:=dG3 m hm;have nd:=eE9 m hm;refine B4 (N2 (U0 (ds:=(lpP m).map xD) (EF.e' (S4 (A5 (A1 (i:=2) rfl) B1) ⟨m,hm,rfl,rfl⟩))) (λi ρ=>∃x7 x8,x7.nb=true/\x8.nb=true/\ρ=[.val (lI U),.val (.int nb),.val (.int (m:Int)),.val (lI (fl F m)),.val (lI (fl G m)),.val (fdD m (TT.D3 F m,TT.D3 G m)),.own (((lpP m).take i).map (fdD m)),x7,x8]) ⟨.no,.no,rfl,rfl,rfl⟩ ?_ ?_)
 .rintro i d _ hd ⟨x7,x8,b7,b8,rfl⟩;rw[Aa9]at hd;obtain⟨x,hx,rfl⟩:=Bn.mp hd;have hxm:=Ar hx;have hil:=(Ab0.mp hx).1;have ck:=eI1 hm hxm;refine⟨_,D5,?_⟩;refine B4 (F8 (d:=fdD m x) (E6 (pre:=dN3) (X:=E0) (A5 (E4 (ds:=[.str (sb x.1),.str (sb x.2)]) (A1 (i:=7) rfl) A9 rfl rfl) (A5 (E4 (ds:=[.str (sb x.1),.str (sb x.2)]) (A1 (i:=7) rfl) A9 rfl rfl) B1)) ⟨fF x.1,fF x.2,m,by lia,ck.rw,by rw[ck.r1,ck.r2],rfl⟩) ?_)
  show W K _ [.val (lI U),.val (.int nb),.val (.int (m:Int)),.val (lI (fl F m)),.val (lI (fl G m)),.val (fdD m (TT.D3 F m,TT.D3 G m)),.own (((lpP m).take i).map (fdD m)),.val (xD x),.val (fdD m x)] _
  obtain⟨dq,tq,Bq⟩:=dN4 ck.rw (dO2 m);obtain⟨edq,etq⟩:=eI9 Bq;have I:=TT.E1 Bq.R m (Aa7 _);have tin:=cC0 (K:=K) (m:=false) (ρ:=[.val (lI U),.val (.int nb),.val (.int (m:Int)),.val (lI (fl F m)),.val (lI (fl G m)),.val (fdD m (TT.D3 F m,TT.D3 G m)),.own (((lpP m).take i).map (fdD m)),.val (xD x),.val (fdD m x)]) (ds:=((lpP m).take i).map (fdD m)) (d:=fdD m x) (d':=.list (((lpP m).take i).map (fdD m))) (A1 (i:=8) rfl) (K4 (i:=6) rfl) rfl (dA4 m x) (cD8 m _);rw[dB4 hm (λy hy=>As hy) hxm,show decide (x∈(lpP m).take i)=false from Ba λz=>by
   obtain⟨j,hj,e⟩:=List.mem_iff_getElem.mp z;rw[List.getElem_take]at e;rw[Ad1]at hj;have e2:=(Ab0.mp hx).2;exact(List.pairwise_iff_getElem.mp nd) j i (by lia) hil (by lia) (e.trans e2.symm)]at tin
  have l2:=aH6 (K:=K) (m:=false) (ρ:=[.val (lI U),.val (.int nb),.val (.int (m:Int)),.val (lI (fl F m)),.val (lI (fl G m)),.val (fdD m (TT.D3 F m,TT.D3 G m)),.own (((lpP m).take i).map (fdD m)),.val (xD x),.val (fdD m x)]) (O7 (d:=fdD m x) (ds:=[.tuple ((drL (fF x.1) (fF x.2) m).map tN),.tuple ((trL (fF x.1) (fF x.2) m).map tN)]) (A5 (A1 (i:=8) rfl) B1)) (A9 (i:=2))
  refine B4 (V4 (b:=false) (aD0 (a:=false) (b:=false) (aZ3 (a:=true) (t_b (bN7 (d:=fdD m x) (A1 (i:=8) rfl)))) λ_=>aD0 (a:=false) (b:=false) (Q1 l2 (by simp)) λ_=>D1 tin) (λh=>by cases h) (λ_=>M2 ?_))
  have f0:∀{mm:Bool},LV.E K mm (tOp (rIx K) (J7 8) (tC (.int 0))) [.val (lI U),.val (.int nb),.val (.int (m:Int)),.val (lI (fl F m)),.val (lI (fl G m)),.val (fdD m (TT.D3 F m,TT.D3 G m)),.own (((lpP m).take i).map (fdD m)),.val (xD x),.val (fdD m x)] (.tuple ((drL (fF x.1) (fF x.2) m).map tN)):=λ{mm}=>E4 (ds:=[.tuple ((drL (fF x.1) (fF x.2) m).map tN),.tuple ((trL (fF x.1) (fF x.2) m).map tN)]) (A1 (i:=8) rfl) A9 rfl rfl
  have f1:∀{mm:Bool},LV.E K mm (tOp (rIx K) (J7 8) (tC (.int 1))) [.val (lI U),.val (.int nb),.val (.int (m:Int)),.val (lI (fl F m)),.val (lI (fl G m)),.val (fdD m (TT.D3 F m,TT.D3 G m)),.own (((lpP m).take i).map (fdD m)),.val (xD x),.val (fdD m x)] (.tuple ((trL (fF x.1) (fF x.2) m).map tN)):=λ{mm}=>E4 (ds:=[.tuple ((drL (fF x.1) (fF x.2) m).map tN),.tuple ((trL (fF x.1) (fF x.2) m).map tN)]) (A1 (i:=8) rfl) A9 rfl rfl
  have dl:(drL (fF x.1) (fF x.2) m).length=m+3:=by rw[<- edq];exact Bq.dl
  have tl:(trL (fF x.1) (fF x.2) m).length=m:=by rw[<- etq];exact Bq.tl
  have dx:Dx m (drL (fF x.1) (fF x.2) m) (trL (fF x.1) (fF x.2) m):=⟨by lia,dl,by rw[<- edq];exact Bq.good⟩
  have bg:Bg m (drL (fF x.1) (fF x.2) m):=λp hp=>by
   have e:TT.trn (drL (fF x.1) (fF x.2) m) p=TT.G4 ((TT.gst (fF x.1) (fF x.2) m).row p):=by
    unfold TT.trn drL;rw[Aa9,Aa9,List.getElem?_range hp];rfl
   rw[e];exact TT.bN9 (I.inv.nd p)
  have n3:=aH6 (K:=K) (m:=false) (ρ:=[.val (lI U),.val (.int nb),.val (.int (m:Int)),.val (lI (fl F m)),.val (lI (fl G m)),.val (fdD m (TT.D3 F m,TT.D3 G m)),.own (((lpP m).take i).map (fdD m)),.val (xD x),.val (fdD m x)]) (O7 (d:=.tuple ((drL (fF x.1) (fF x.2) m).map tN)) (ds:=(drL (fF x.1) (fF x.2) m).map tN) (A5 f0 B1)) (L9 (g:=λi j=>i+j) (A1 (i:=2) rfl) (A9 (i:=3)))
  have n4:=aH6 (K:=K) (m:=false) (ρ:=[.val (lI U),.val (.int nb),.val (.int (m:Int)),.val (lI (fl F m)),.val (lI (fl G m)),.val (fdD m (TT.D3 F m,TT.D3 G m)),.own (((lpP m).take i).map (fdD m)),.val (xD x),.val (fdD m x)]) (O7 (d:=.tuple ((trL (fF x.1) (fF x.2) m).map tN)) (ds:=(trL (fF x.1) (fF x.2) m).map tN) (A5 f1 B1)) (A1 (i:=2) rfl)
  refine B4 (V4 (b:=false) (aD0 (a:=false) (b:=false) (aZ3 (a:=true) (t_b (E6 (pre:=dM9) (X:=E0) (A5 f0 B1) ⟨m,_,_,dx,bg,rfl,rfl⟩))) λ_=>aD0 (a:=false) (b:=false) (Q1 n3 (by rw[Aa3,dl];simp)) λ_=>Q1 n4 (by rw[Aa3,tl];simp)) (λh=>by cases h) (λ_=>M2 ?_))
  have n5:=eD5 (K:=K) (m:=false) (ρ:=[.val (lI U),.val (.int nb),.val (.int (m:Int)),.val (lI (fl F m)),.val (lI (fl G m)),.val (fdD m (TT.D3 F m,TT.D3 G m)),.own (((lpP m).take i).map (fdD m)),.val (xD x),.val (fdD m x)]) (d:=xD x) (d':=xD x) (E6 (pre:=dP2) (X:=E0) (A5 f0 (A5 f1 B1)) ⟨fF x.1,fF x.2,m,_,dq,tq,by lia,Bq,by rw[edq,etq],by rw[ck.r1,ck.r2];rfl⟩) (A1 (i:=7) rfl) (cT4 x) (cT4 x)
  rw[PySem.SeqAt.eqv_refl _ (cT4 x).1]at n5;refine B4 (V4 (b:=false) (aD0 (a:=false) (b:=false) (aZ3 (a:=true) (t_b (E6 (pre:=dL5) (X:=E0) (A5 f0 (A5 f1 B1)) ⟨_,_,ck.io,rfl,rfl⟩))) λ_=>D1 n5) (λh=>by cases h) (λ_=>M2 ?_))
  refine P5 rfl (A1 (i:=8) rfl) (by rw[Aa3,Ad1];unfold sizeLine;lia) ⟨.val (xD x),.val (fdD m x),rfl,rfl,?_⟩
  rw[Dj,hx,Ad2];rfl
 .rintro _ ⟨x7,x8,b7,b8,rfl⟩;rw[Aa3,Cg];have tin:=cC0 (K:=K) (m:=false) (ρ:=[.val (lI U),.val (.int nb),.val (.int (m:Int)),.val (lI (fl F m)),.val (lI (fl G m)),.val (fdD m (TT.D3 F m,TT.D3 G m)),.own ((lpP m).map (fdD m)),x7,x8]) (ds:=(lpP m).map (fdD m)) (d:=fdD m (TT.D3 F m,TT.D3 G m)) (d':=.list ((lpP m).map (fdD m))) (A1 (i:=5) rfl) (K4 (i:=6) rfl) rfl (dA4 m _) (cD8 m _);rw[dB4 hm (λy hy=>hy) (bZ9 hm R),show decide ((TT.D3 F m,TT.D3 G m)∈lpP m)=true from Bu (bZ9 hm R)]at tin
  refine M8 (dO5 (a:=true) tin λ_=>aD5 (O7 (d:=.list ((lpP m).map (fdD m))) (ds:=(lpP m).map (fdD m)) (A5 (K4 (i:=6) rfl) B1)) (E6 (pre:=dO8) (X:=E0) (A5 (A1 (i:=2) rfl) B1) ⟨m,by lia,rfl,rfl⟩)) ?_
  rw[Aa3,ll];simp
end
theorem fin_of {l:PySem.W.OpenLaw}{w:World}{fa f:Addr}{K:Frag}{mg:Str->Option Value}(y:mg "law" = some (.ref fa))(h:∃a:Ad,Tx K mg a/\a.bR0=f/\∀(s:Shared) (v:Value),BindsTo s a.bD8 ⟨[v],[]⟩ [("_law_script",v)])
  : ∃fd:FuncData,(∀(s:Shared) (v:Value),BindsTo s fd ⟨[v],[]⟩ [("_law_script",v)])/\∀base:Heap,K.In base->base.Ns mainGlobals mg->FnOk l.prog w K mg base CX0 12 fa fd ["_law_script"] (cB4 K):=by
 obtain⟨a,T,r,z⟩:=h;have e:=y.symm.trans T.eB4;cases e;exact⟨a.bD8,z,λbase _ _=>dS7 T⟩
theorem walk {l:PySem.W.OpenLaw}{q:Program}{loose:AG}{XP:(Str->Option Value)->Heap->Prop}{YP:World->Heap->Prop}{d:DefRec}{K:Params->Frag}(m:l.most=some 63)(e:d.params.defaults=[])
  (r:∀(w:World) (h:Heap),YP w h->(K w.params).In h)
  (F:∀(w:World) (mg:Str->Option Value) (fa:Addr) (h:Heap),(K w.params).In h->h.Ns mainGlobals mg->mg d.name=some (.ref fa) ->
   ∃fd:FuncData,(∀(s:Shared) (u:Value),BindsTo s fd ⟨[u],[]⟩ [("_law_script",u)])/\∀base:Heap,(K w.params).In base->base.Ns mainGlobals mg->FnOk l.prog w (K w.params) mg base CX0 12 fa fd ["_law_script"] (cB4 (K w.params))) :
  PySem.W.WalkO q loose XP YP l.row.toRowW d [] (λf vs=>PySem.call f vs):=
 L2.dC5 (n:=63) (k:=12) (x := "_law_script") (CX:=λ_=>CX0) (sp:=λw=>cB4 (K w.params)) m (by decide) e ⟨rfl,by decide,by decide⟩ r F (λ_ _ a Y g _ y=>⟨a,Y,rfl,y,g,λ_=>rfl⟩) λ_ _ _ _ _ z=>z
end K48
namespace PySem.W.Fast
def tw1514937289019889597:=0
def tw17460563683929888353:=0
def tw2763612019583512344:=0
def tw8963264537057156646:=0
def tw17556109330590972033:=0
def tw14054520464408213:=0
def tw5968507943184039603:=0
def tw1293202089946506237:=0
def tw4192526808141181748:=0
def tw18074895323881554643:=0
def tw13683508277881917186:=0
def tw3276719518167085805:=0
def tw11854468436196134952:=0
def tw14407208730287178257:=0
def tw5152552921661234090:=0
def tw8196096105439635404:=0
def tw14654747801244202609:=0
def tw4351428254887190348:=0
def tw11158542790698550911:=0
def tw9851037432924517674:=0
def tw6487087394624915393:=0
def tw5546426904259289:=0
def tw12552330888347053764:=0
def tw1486902808204211388:=0
def tw8883949731086883361:=0
def tw3328111859879877843:=0
def tw6129676405098512444:=0
def tw17627153100385742272:=0
def tw5478509490182591707:=0
def tw17713052831556198203:=0
def tw7486738397419151693:=0
def tw11949022755753902646:=0
def tw15790129046014710131:=0
def tw14585096352090450398:=0
def tw18330745494543320944:=0
def tw8954605071637485520:=0
def tw7356525806262801091:=0
def tw13464004021984326277:=0
def tw16948355056459904027:=0
def tw16386675980543002074:=0
def tw7031394053950299259:=0
def tw745865523590053165:=0
def tw14254866400842793769:=0
def tw13517165360419867560:=0
def tw10579089657830324301:=0
def tw15344103192868878063:=0
def tw11309894098363095642:=0
def tw1934587558947893040:=0
def tw12391616127249291985:=0
def tw110071467338866738:=0
def tw14262446614209265262:=0
def tw13920597021562214076:=0
def tw6858254252242329261:=0
def tw11853010707415846008:=0
def tw8317086413906916978:=0
def tw872387096581850464:=0
def tw14044113154087278288:=0
def tw16203159652328833304:=0
def tw9328743558509732243:=0
def tw9222862082184784222:=0
def tw17010057319371560988:=0
def tw12089111649463176213:=0
def tw3618997574482038657:=0
def tw7381554310057061290:=0
def tw2398694093473774808:=0
def tw11114711629065787080:=0
def tw980971350897515744:=0
def tw1673210770121007182:=0
def tw18010795171332293780:=0
def tw4618012593485728038:=0
def tw13017547951607713462:=0
def tw10806874294195079634:=0
def tw16028908372358742945:=0
def tw12607860000250739681:=0
def tw16940519735218144040:=0
def tw4184389252480119683:=0
def tw16388864383131356457:=0
def tw17013774726433510950:=0
def tw15809544831832108102:=0
def tw16417216640814815885:=0
def tw8008243286293196141:=0
def tw15980044392376756351:=0
def tw1782881936325342573:=0
def tw11109075918565554393:=0
def tw13798410161520694121:=0
def tw9061393663815653630:=0
def tw15111730865505153241:=0
def tw3401151073748308797:=0
def tw14740574622878815528:=0
def tw11373165356867364282:=0
def tw17764371800626957145:=0
def tw7041764909045020360:=0
def tw9814553887677113181:=0
def tw10224916906735653925:=0
def tw5032154434702758774:=0
def tw5695593787227915791:=0
def tw4042440349346913298:=0
def tw11647250815246340247:=0
def tw2504022699240094721:=0
def tw6592150326364173347:=0
def tw7669938046279676936:=0
def tw9616354918427691808:=0
def tw6710492488459756327:=0
def tw17738685143743907286:=0
def tw3599921894048272931:=0
def tw6337407440674509417:=0
def tw12642635660963596608:=0
def tw7330233874710737041:=0
def tw2479172272036559401:=0
def tw9834619443124945734:=0
def tw17811316238694903486:=0
def tw16120757542850299408:=0
def tw3993497994749035624:=0
def tw8515690164856944504:=0
def tw10035261203661642481:=0
def tw7737372371135755658:=0
def tw11358954687154102758:=0
def tw10503272593675069675:=0
def tw1377333605954685964:=0
def tw17295762117615362161:=0
def tw18095532101829511343:=0
def tw10130962321171590012:=0
def tw11271736468268568002:=0
def tw3599377188963294818:=0
def tw6128640145303979943:=0
def tw1948368465062794294:=0
def tw8019742361147469813:=0
def tw472846293366084321:=0
def tw9621087626703133660:=0
def tw3275026213529074388:=0
def tw11659532590264696849:=0
def tw10207157625724387735:=0
def tw5205769348940251146:=0
def tw12377776145845382684:=0
def tw11686309369605389203:=0
def tw12226701913634407821:=0
def tw11274542145150537013:=0
def tw15029819673601749884:=0
def tw5840670504510300066:=0
def tw6419634030610745352:=0
def tw13427543277374449879:=0
def tw8383079362682012800:=0
def tw1149153183204572802:=0
def tw1362830948238474217:=0
def tw8877484730840276147:=0
def tw13936418491398684986:=0
def tw8591132667287374261:=0
def tw10969502578914347083:=0
def tw13163714301507296969:=0
def tw9832579351723216982:=0
def tw8651500384862591296:=0
def tw17834480196075205245:=0
def tw12634051514150989760:=0
def tw16069948523838149209:=0
def tw6800879412404055158:=0
def tw17566846395983282477:=0
def tw12641529179724985955:=0
def tw8060687962345729210:=0
def tw4339543927873910661:=0
def tw5898481491681578568:=0
def tw11801625816784235731:=0
def tw14713454568464990249:=0
def tw421849152057690370:=0
def tw11751319756713850394:=0
def tw9771331157861958030:=0
def tw5489783714651590010:=0
def tw163956015039083008:=0
def tw16018491158812802008:=0
def tw7280788124599493146:=0
def tw17742671081912256009:=0
def tw14669023049311206410:=0
def tw11070729944762166784:=0
def tw6165975258169340474:=0
def tw7010483388471655313:=0
def tw1994113823920592115:=0
def tw3956550954351842387:=0
def tw16599979620328575692:=0
def tw12473218789791513166:=0
def tw14952466904956144549:=0
def tw7772836031836697649:=0
def tw7506785391519213051:=0
def tw71581255347896663:=0
def tw4622153160610742280:=0
def tw992725646818721764:=0
def tw3268998505834576328:=0
def tw16169856524670234592:=0
def tw856577175199113597:=0
def tw9679656534923535999:=0
def tw17616099372736557302:=0
def tw8833276547302382992:=0
def tw8255598290705583046:=0
def tw3047711781525325668:=0
def tw1109297491934545353:=0
def tw2394356045991434103:=0
def tw12721916964140644797:=0
def tw8653075747346915879:=0
def tw17676453425733164103:=0
def tw9156175218755667018:=0
def tw15842376213830948089:=0
def tw2373028300332899835:=0
def tw6593947785681116408:=0
def tw8880155885270476796:=0
def tw10546491672812312083:=0
def tw15737425719183225065:=0
def tw6283079373402855475:=0
def tw115386359424690545:=0
def tw17499382675809216220:=0
def tw2345036496112138487:=0
def tw10118357981495685068:=0
def tw2794372015913534389:=0
def tw5106327540176766577:=0
def tw14773361516385335926:=0
def tw2583888730832240183:=0
def tw12643923818232837663:=0
def tw15729762128279881941:=0
def tw17110062647160056813:=0
def tw1110895151722217790:=0
def tw9256986121422493181:=0
def tw10150061362948785889:=0
def tw17173406530525938777:=0
def tw11144728579576971884:=0
def tw7871430518308265521:=0
def tw13326029081384839506:=0
def tw219924406600199984:=0
def tw17240196810909928495:=0
def tw13131227978311041209:=0
def tw546496542010607956:=0
def tw16142982748231371848:=0
def tw10678891292476207059:=0
def tw99484665891665281:=0
def tw15783538443083781639:=0
def tw2564725755715598301:=0
def tw8512090157863955748:=0
def tw14646647412193890056:=0
def tw6420140741763699182:=0
def tw17409944619383839914:=0
def tw17072052790239414846:=0
def tw5213059970231650118:=0
def tw3886735556829169453:=0
def tw2644471733120790710:=0
def tw4824745707355239419:=0
def tw3346660806679137519:=0
def tw3005630561347381102:=0
def tw2629556480291285195:=0
def tw2586461116354148814:=0
def tw10069560308285741446:=0
def tw14481055943382399501:=0
def tw11726239742278765869:=0
def tw13364710582793905243:=0
def tw9849718383524853595:=0
def tw7056567522186392796:=0
def tw16085881378866351833:=0
def tw9418724742531874217:=0
def tw7920070482741004449:=0
def tw16084061376661458871:=0
def tw4490196415208492637:=0
def tw7927980680029765099:=0
def tw882341504716488603:=0
def tw8996327011633646690:=0
def tw4483197383106337212:=0
def tw8739668265616685193:=0
def tw5426653639389414881:=0
def tw13665395697306172098:=0
def tw10183393141091247419:=0
def tw9409782621160689831:=0
def tw13927209127266596272:=0
def tw7095430832096398401:=0
def tw7740498720677085469:=0
def tw974076744953731515:=0
def tw12651402646505357882:=0
def tw14232570614779854639:=0
def tw2805598224543192293:=0
def tw9981609120406791218:=0
def tw15590032480133422120:=0
def tw12524980310282558561:=0
def tw14903971479721173259:=0
def tw1888382419426910210:=0
def tw11486088754099055077:=0
def tw1917665095311936313:=0
def tw13284449044557758805:=0
def tw4398538673905753998:=0
def tw11133321311165742855:=0
def tw16400146439192043222:=0
def tw5538188498687581245:=0
def tw6752326195446391733:=0
def tw17037746635990277180:=0
def tw1223923578344107528:=0
def tw6330023663730963999:=0
def tw17857078313477078716:=0
def tw10481425593249260598:=0
def tw15582499274787572504:=0
end PySem.W.Fast
open PySem PySem.W PyProof.Rows
set_option maxRecDepth 100000 in
set_option maxHeartbeats 0 in
theorem PySem.Challenge.cw_threetrees_k48_whole_each_pair_its_own_d_holds : PySem.Challenge.rw_threetrees_k48_whole_each_pair_its_own_d.Holds := by
 w_on;o_law;k_head;(case hw=>w_witness2)
 k_fill
 refine K48.walk (l:=PySem.Challenge.rw_threetrees_k48_whole_each_pair_its_own_d) rfl rfl (λw h Y=>PySem.W.kIn_of Y) ?F
 case F=>
  intro w mg fa h KX G hmg;refine' K48.fin_of hmg (K48.tx_mk KX G ⟨_,L2.E9 _ _ _⟩ ⟨_,L2.E9 _ _ _⟩ ⟨_,L2.E9 _ _ _⟩ ⟨_,L2.E9 _ _ _⟩ ⟨_,L2.E9 _ _ _⟩ ⟨_,L2.E9 _ _ _⟩ ⟨_,L2.E9 _ _ _⟩ ⟨_,L2.E9 _ _ _⟩ ⟨_,L2.E9 _ _ _⟩ ⟨_,L2.E9 _ _ _⟩ ⟨_,L2.E9 _ _ _⟩ ⟨_,L2.E9 _ _ _⟩ ⟨_,L2.E9 _ _ _⟩ ⟨_,L2.E9 _ _ _⟩ ⟨_,L2.E9 _ _ _⟩ ⟨_,L2.E9 _ _ _⟩ ⟨_,L2.E9 _ _ _⟩ ⟨_,L2.E9 _ _ _⟩ ⟨_,L2.E9 _ _ _⟩ ⟨_,L2.E9 _ _ _⟩ ⟨_,L2.E9 _ _ _⟩ ⟨_,L2.E9 _ _ _⟩ ⟨_,L2.E9 _ _ _⟩ ⟨_,L2.E9 _ _ _⟩ ⟨_,L2.E9 _ _ _⟩ ⟨_,L2.E9 _ _ _⟩ ⟨_,L2.E9 _ _ _⟩ ⟨_,L2.E9 _ _ _⟩ ⟨_,L2.E9 _ _ _⟩ ⟨_,L2.E9 _ _ _⟩ ⟨_,L2.E9 _ _ _⟩ ⟨_,L2.E9 _ _ _⟩ _ _ _ _ _ _ _ _ _ _ _ _ _ _ _ _ _ _ _ _ ⟨_,_,_,_⟩ ⟨_,_,_,_⟩ _ _ _ _ _ _ (L2.E9 _ _ _) _ _ _ _ (L2.E9 _ _ _) _ _ (L2.E9 _ _ _) _ _ (L2.E9 _ _ _) _ _)
  any_goals first | k_is | k_exc | kernel_rfl
